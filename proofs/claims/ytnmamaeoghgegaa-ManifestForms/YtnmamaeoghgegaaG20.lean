/-
  Ytnmamaeoghgegaa: the texts DP13, DM3, DM4, one behind the other.
-/
import Derived.Test.YtnmamaeoghgegaaG19
import Derived.Test.YtnmamaeoghgegaaG12
import Derived.Test.YtnmamaeoghgegaaG11
/-
  The document's disk: Crash.
-/
namespace Go.Proofs.Ytnmamaeoghgegaa.Dk
open Go.RowKit
set_option maxRecDepth 100000

/-- How many of a file's bytes last: up to the last one of which c holds. -/
def keepN (c : Nat → Bool) : List Nat → Nat → Nat → Nat
  | [], _, a => a
  | n :: r, p, a => keepN c r (p + 1) (if c n then p + 1 else a)
theorem keepN_snoc (c : Nat → Bool) : ∀ (l : List Nat) (n p a : Nat), keepN c (l ++ [n]) p a = if c n then p + l.length + 1 else keepN c l p a
  | [], n, p, a => by simp [keepN]
  | x :: r, n, p, a => by
    show keepN c (r ++ [n]) (p + 1) _ = _
    rw [keepN_snoc c r n (p + 1) _]
    split
    · simp; omega
    · rfl
theorem keepN_le (c : Nat → Bool) : ∀ (l : List Nat) (p a : Nat), a ≤ p → keepN c l p a ≤ p + l.length
  | [], p, a, h => by simpa [keepN] using h
  | x :: r, p, a, h => by
    show keepN c r (p + 1) _ ≤ _
    have := keepN_le c r (p + 1) (if c x then p + 1 else a) (by split <;> omega)
    simp; omega
def lastsC (l : List Nat) (last : Int) (n : Nat) : Bool := decide (n = 0) || decide ((rk l n : Int) < last)
def RS.all (s : RS) : List Nat := s.files.flatMap G.late
def G.crash (c : Nat → Bool) (f : G) : G := ⟨f.name, f.bytes.take (keepN c f.late 0 0), List.replicate (keepN c f.late 0 0) 0⟩
def rCrash (s : RS) (last : Int) : RS := { s with left := -1, down := false, files := s.files.map (G.crash (lastsC s.all last)) }

theorem all_pl (d : Rs) : d.pl.all = allG d.files := by
  unfold RS.all allG Rs.pl
  simp only [List.flatMap_map]
  rfl

theorem RRep.reborn {w : World} {B b : Nat} {d : Rs} (h : RRep w B b d) : RRep ((w.setCell ⟨b, 3, none⟩ (.int .i64 (-1))).setCell ⟨b, 4, none⟩ (.bool false)) B b { d with left := -1, down := false } ∧ Step (d.foot b) (d.foot b) w ((w.setCell ⟨b, 3, none⟩ (.int .i64 (-1))).setCell ⟨b, 4, none⟩ (.bool false)) := by
  refine ⟨h.scal rfl rfl ?_ ?_, (Step.setb w rfoot_b 3 _).trans (Step.setb _ rfoot_b 4 _)⟩
  · exact set_same (set_same h.blk rfl) rfl
  · intro k hk
    exact (Below.heap_setCell _ ⟨b, 4, none⟩ _ k hk).trans (Below.heap_setCell w ⟨b, 3, none⟩ _ k hk)

/-- The table of what lasts, of the files ahead of i; v: of file i. -/
def KeptIn (c : Nat → Bool) (l : List Gv) (K : List Nat) (i v : Nat) : Prop := K.length = l.length ∧ ∀ t, t < l.length → K[t]? = some (if t < i then keepN c l[t]!.late 0 0 else if t = i then v else 0)
theorem KeptIn.start (c : Nat → Bool) (l : List Gv) : KeptIn c l (List.replicate l.length 0) 0 0 := ⟨by simp, fun t ht => by
  rw [List.getElem?_replicate, if_pos ht]
  congr 1
  split
  · omega
  · split <;> rfl⟩
theorem KeptIn.set {c : Nat → Bool} {l : List Gv} {K : List Nat} {i v : Nat} (h : KeptIn c l K i v) (hi : i < l.length) (v' : Nat) : KeptIn c l (K.set i v') i v' := ⟨by rw [List.length_set]; exact h.1, fun t ht => by
  rw [List.getElem?_set]
  by_cases e : i = t
  · rw [if_pos e, if_pos (by rw [h.1]; omega), if_neg (by omega), if_pos e.symm]
  · rw [if_neg e, h.2 t ht]
    congr 1
    by_cases h2 : t < i
    · rw [if_pos h2, if_pos h2]
    · rw [if_neg h2, if_neg h2, if_neg (fun e' => e e'.symm), if_neg (fun e' => e e'.symm)]⟩
theorem KeptIn.next {c : Nat → Bool} {l : List Gv} {K : List Nat} {i : Nat} (h : KeptIn c l K i (keepN c l[i]!.late 0 0)) : KeptIn c l K (i + 1) 0 := ⟨h.1, fun t ht => by
  rw [h.2 t ht]
  congr 1
  by_cases h2 : t < i
  · rw [if_pos h2, if_pos (by omega)]
  · rw [if_neg h2]
    by_cases e : t = i
    · subst e
      rw [if_pos rfl, if_pos (by omega)]
    · rw [if_neg e, if_neg (by omega)]
      split <;> rfl⟩

theorem Tbl.other {w : World} {X Y : Nat} {L : List Nat} (h : Tbl w X L) (hne : X ≠ Y) (k : Nat) (v : Value) : Tbl (w.setCell ⟨Y, k, none⟩ v) X L := h.frame (Below.heap_setCell w ⟨Y, k, none⟩ v X hne)

/-- In the midst of it: the files ahead of i are cut. -/
structure CrM (w wr : World) (B b X : Nat) (d d1 : Rs) (c : Nat → Bool) (K : List Nat) (i : Nat) (dr : Rs) : Prop where
  rep : RRep wr B b dr
  tab : Tbl wr X K
  out : X ∉ dr.foot b
  step : Step (d.foot b) (dr.foot b) w wr
  len : dr.files.length = d.files.length
  rest : ∀ t, i ≤ t → dr.files[t]? = d.files[t]?
  pl : dr.pl = { d1.pl with files := (d.pl.files.take i).map (G.crash c) ++ d.pl.files.drop i }

theorem set_mid {α : Type} {A C : List α} {x y : α} {i : Nat} (h : A.length = i) : (A ++ x :: C).set i y = A ++ y :: C := by
  subst h
  simp

theorem CrM.next {w wr w' : World} {B b X i : Nat} {d d1 dr d2 : Rs} {c : Nat → Bool} {K : List Nat} {f f' : Gv} (h : CrM w wr B b X d d1 c K i dr) (hf : d.files[i]? = some f) (hr : RRep w' B b d2) (hd : d2 = { dr with files := dr.files.set i f' }) (he : f'.pl = G.crash c f.pl) (hs : Step (dr.foot b) (d2.foot b) wr w') : CrM w w' B b X d d1 c K (i + 1) d2 := by
  have hi : i < d.files.length := (List.getElem?_eq_some_iff.1 hf).1
  refine ⟨hr, h.tab.frame (hs.block X h.tab.lt h.out), fun hm => ?_, h.step.trans hs, by rw [hd]; show (dr.files.set i f').length = _; rw [List.length_set]; exact h.len, fun t ht => ?_, ?_⟩
  · rcases hs.sub X hm with e | e
    · exact h.out e
    · have := h.tab.lt
      omega
  · rw [hd]
    show (dr.files.set i f')[t]? = _
    rw [List.getElem?_set, if_neg (by omega)]
    exact h.rest t (by omega)
  · have hp := h.pl
    have hdrop : d.pl.files.drop i = f.pl :: d.pl.files.drop (i + 1) := by
      have hl : i < d.pl.files.length := by simpa [Rs.pl] using hi
      rw [List.drop_eq_getElem_cons hl]
      have := rpl_get hf
      rw [List.getElem?_eq_getElem hl] at this
      rw [Option.some.inj this]
    rw [hd]
    show (⟨(dr.files.set i f').map Gv.pl, dr.count, dr.most, dr.left, dr.down⟩ : RS) = _
    rw [List.map_set]
    have e1 : dr.files.map Gv.pl = (d.pl.files.take i).map (G.crash c) ++ d.pl.files.drop i := congrArg RS.files hp
    have hla : ((d.pl.files.take i).map (G.crash c)).length = i := by
      simp [Rs.pl]; omega
    rw [e1, hdrop, set_mid hla, he]
    have e2 : d.pl.files.take (i + 1) = d.pl.files.take i ++ [f.pl] := by
      rw [List.take_add_one, rpl_get hf]
      rfl
    rw [e2, List.map_append, List.append_assoc]
    have e3 : dr.count = d1.pl.count := congrArg RS.count hp
    have e4 : dr.most = d1.pl.most := congrArg RS.most hp
    have e5 : dr.left = d1.pl.left := congrArg RS.left hp
    have e6 : dr.down = d1.pl.down := congrArg RS.down hp
    rw [e3, e4, e5, e6]
    rfl

set_option maxHeartbeats 4000000 in
theorem rcrash_any {w : World} {B b : Nat} {d : Rs} (h : RRep w B b d) (ok : ROk d.pl) (last : Int) :
    Calls Try.prog 53 #[.pointer (some ⟨b, 0, none⟩), .int .i64 last] w fun e w' => e = .returned (.tuple #[]) ∧ ∃ d', RRep w' B b d' ∧ d'.pl = rCrash d.pl last ∧ Step (d.foot b) (d'.foot b) w w' := by
  obtain ⟨r1, s1⟩ := h.reborn
  have ok1 : ROk (Rs.pl { d with left := -1, down := false }) := ⟨ok.few, ok.most, by show (-1 : Int) ≤ _; omega, ok.used, ok.lates, ok.count, ok.small⟩
  have hfew : d.files.length ≤ 16 := by simpa [Rs.pl] using ok.few
  have hcnt : d.count ≤ 1000000 := ok.count
  have c3 := h.c3
  have c4 := h.c4
  have f3 := h.fz 3
  have f4 := h.fz 4
  have g4 : (w.setCell ⟨b, 3, none⟩ (.int .i64 (-1))).cell? ⟨b, 4, none⟩ = some (.bool d.down) := by rw [cell_of_row _ b 4 _ _ _ (set_same h.blk rfl)]; rfl
  have g4f : (w.setCell ⟨b, 3, none⟩ (.int .i64 (-1))).frozen? ⟨b, 4, none⟩ = false := frozen_of_row _ b 4 _ _ (set_same h.blk rfl)
  obtain ⟨a, cap, ev, hc'⟩ := r1.row
  have c0 := r1.c0
  rw [ev] at c0
  have hmk := mk_ints d.files.length (by omega)
  have hlen : Aside (∀ t, t < d.files.length → d.files[t]!.late.length ≤ 60000 ∧ d.files[t]!.late.length = d.files[t]!.bytes.length) := fun t ht => by
    have hm := List.mem_of_getElem? (getbang d.files t ht)
    have h1 := ok.lates (d.files[t]!).pl (List.mem_map.2 ⟨_, hm, rfl⟩)
    have h2 := mem_le_sum d.pl.files (fun f => f.bytes.length) (x := (d.files[t]!).pl) (List.mem_map.2 ⟨_, hm, rfl⟩)
    have h3 := ok.used
    simp only [Gv.pl] at h1 h2
    omega
  have hsm : Aside (∀ t, t < d.files.length → ∀ j, j < d.files[t]!.late.length → d.files[t]!.late[j]! ≤ d.count) := fun t ht j hj => by
    have hm := List.mem_of_getElem? (getbang d.files t ht)
    exact ok.small (d.files[t]!).pl (List.mem_map.2 ⟨_, hm, rfl⟩) _ (List.mem_of_getElem? (getbang _ j hj))
  have PLD : Aside (rCrash d.pl last = { (Rs.pl { d with left := -1, down := false }) with files := d.pl.files.map (G.crash (lastsC (allG d.files) last)) }) := by
    show _ = _
    unfold rCrash
    rw [all_pl]
    rfl
  obtain ⟨d1, hd1⟩ : ∃ d1 : Rs, d1 = { d with left := -1, down := false } := ⟨_, rfl⟩
  rw [← hd1] at r1 ok1 PLD
  have e1 : d1.files = d.files := by rw [hd1]
  have e2 : d1.count = d.count := by rw [hd1]
  have e3 : d1.foot b = d.foot b := by rw [hd1]; rfl
  have e4 : d1.vf = d.vf := by rw [hd1]
  simp only [] at hc' ev
  have hc : Aside (∀ t, t < d.files.length → ∃ g a' c' a'' c'', a = some ⟨g, 0, none⟩ ∧ ((w.setCell ⟨b, 3, none⟩ (.int .i64 (-1))).setCell ⟨b, 4, none⟩ (.bool false)).cell? ⟨g, t * 3, none⟩ = some (.string d.files[t]!.name) ∧ ((w.setCell ⟨b, 3, none⟩ (.int .i64 (-1))).setCell ⟨b, 4, none⟩ (.bool false)).cell? ⟨g, t * 3 + 1, none⟩ = some (.slice a' d.files[t]!.bytes.length c') ∧ ((w.setCell ⟨b, 3, none⟩ (.int .i64 (-1))).setCell ⟨b, 4, none⟩ (.bool false)).cell? ⟨g, t * 3 + 2, none⟩ = some (.slice a'' d.files[t]!.late.length c'') ∧ ∀ k, k < d.files[t]!.late.length → ∃ gl, a'' = some ⟨gl, 0, none⟩ ∧ ((w.setCell ⟨b, 3, none⟩ (.int .i64 (-1))).setCell ⟨b, 4, none⟩ (.bool false)).cell? ⟨gl, k, none⟩ = some (.int .i64 (d.files[t]!.late[k]! : Int))) := hc'
  have R1 : Aside _ := r1
  have S1 : Aside _ := s1
  have K53 : Aside (∀ o : Obj, _) := fun o : Obj => ranks_any (r1.below ((Below.refl _ _).alloc (Nat.le_refl _) o)) ok1
  rw [e1, e2] at K53
  clear h ok ok1 r1 s1 hc' hd1 ev
  have HB : Aside (b < w.heap.size) := by have := R1.out.b_lt; show _ < _; simpa using this
  go_enter Try.func53, Try.ntmps53
  go_wp2_with (go_at_call 90; refine (K53.out _).mono ?_; rintro e w3 ⟨rfl, hb3, LA, hTA, hLA, hLr⟩)
  have hsz : ((w.setCell ⟨b, 3, none⟩ (.int .i64 (-1))).setCell ⟨b, 4, none⟩ (.bool false)).heap.size = w.heap.size := by simp
  generalize (w.setCell ⟨b, 3, none⟩ (.int .i64 (-1))).setCell ⟨b, 4, none⟩ (.bool false) = w1 at *
  have hsz2 : (w1.alloc (.cells (lcells (List.replicate d.files.length 0)).toArray 3)).heap.size = w.heap.size + 1 := by simp [hsz]
  rw [hsz2] at hTA
  have hTK : Tbl w3 w.heap.size (List.replicate d.files.length 0) := by
    refine Tbl.frame (w := w1.alloc (.cells (lcells (List.replicate d.files.length 0)).toArray 3)) ?_ (hb3.block _ (by rw [hsz2]; omega))
    rw [← hsz]
    exact heap_alloc_new w1 _
  have hb : Below w1.heap.size w1 w3 := ((Below.refl _ _).alloc (Nat.le_refl _) _).trans (hb3.mono (by rw [hsz2, hsz]; omega))
  obtain ⟨c, hcd⟩ : ∃ c, c = lastsC (allG d.files) last := ⟨_, rfl⟩
  rw [← hcd] at PLD
  have hc0 : Aside (c 0 = true) := by show _ = _; rw [hcd]; rfl
  have hc1 : Aside (∀ n, 0 < n → c n = decide ((rk (allG d.files) n : Int) < last)) := fun n hn => by
    rw [hcd]
    unfold lastsC
    rw [decide_eq_false (by omega), Bool.false_or]
  have LR : Aside (∀ j, j < d.count + 2 → LA[j]? = some (rk (allG d.files) j)) := hLr
  have HX : w.heap.size = w1.heap.size := hsz.symm
  clear hcd hb3 hLr hLA hsz2 hsz K53 c3 c4 f3 f4 g4 g4f hmk
  generalize hX1 : w.heap.size = X at *
  have hXa : X ≤ w1.heap.size := by omega
  have hXb : w1.heap.size ≤ X := by omega
  have HX1 : Aside (w.heap.size = X) := hX1
  clear hX1 HX
  go_loopg [6, 7, 8] d.files.length (fun gh s6 _ _ wr => ∃ (i : Nat) (K : List Nat), d.files.length - i ≤ gh ∧ i ≤ d.files.length ∧ s6 = .int .i64 (i : Int) ∧ Below w1.heap.size w1 wr ∧ Tbl wr X K ∧ Tbl wr (X + 1) LA ∧ Aside (KeptIn c d.files K i 0))
  case atStart => exact ⟨0, _, by omega, by omega, rfl, hb, hTK, hTA, KeptIn.start c d.files⟩
  case round =>
    clear hb hTK hTA
    obtain ⟨i, K, hgh, hi, rfl, hb, hTK, hTA, hK⟩ := hrel
    have b0 := cell_below c0 hb
    by_cases hlt : i < d.files.length
    · have q3 : decide (i < d.files.length) = true := by simpa using hlt
      obtain ⟨g, a', c', a'', c'', rfl, y0, y1, y2, y3⟩ := hc.out i hlt
      have E3 : Aside _ := y3
      have SM : Aside _ := hsm.out i hlt
      have hle := (hlen.out i hlt).1
      have b2 := cell_below y2 hb
      have KN : Aside (∀ K, KeptIn c d.files K i (keepN c d.files[i]!.late 0 0) → KeptIn c d.files K (i + 1) 0) := fun K h => h.next
      generalize hy : d.files[i]! = y at *
      clear hy y3 y0 y1
      go_wp2
      go_loopg [7, 8] y.late.length (fun gj s7 _ wq => ∃ (j : Nat) (K : List Nat), y.late.length - j ≤ gj ∧ j ≤ y.late.length ∧ s7 = .int .i64 (j : Int) ∧ Below w1.heap.size w1 wq ∧ Tbl wq X K ∧ Tbl wq (X + 1) LA ∧ Aside (KeptIn c d.files K i (keepN c (y.late.take j) 0 0)))
      case atStart => exact ⟨0, K, by omega, by omega, rfl, hb, hTK, hTA, hK⟩
      case round =>
        clear hb hTK hTA hK b0 b2 K
        obtain ⟨j, K, hgj, hj, rfl, hb, hTK, hTA, hK⟩ := hrel
        have b0 := cell_below c0 hb
        have b2 := cell_below y2 hb
        by_cases hjl : j < y.late.length
        · have q4 : decide (j < y.late.length) = true := by simpa using hjl
          obtain ⟨gl, rfl, e4⟩ := E3.out j hjl
          have b4 := cell_below e4 hb
          have hv1 := SM.out j hjl
          have hnx := lates_next y.late j hjl
          generalize y.late[j]! = v at *
          have hks : keepN c (y.late.take (j + 1)) 0 0 = if c v then j + 1 else keepN c (y.late.take j) 0 0 := by
            rw [hnx, keepN_snoc, List.length_take, Nat.min_eq_left (by omega)]
            simp
          clear hnx e4
          have hkx := hK.out.2 i hlt
          rw [if_neg (by omega), if_pos rfl] at hkx
          have tk := hTK.cell hkx
          have tf := hTK.fz i
          have hcv : c v = true ∨ c v = false := by cases c v <;> simp
          by_cases hv : v = 0
          · subst hv
            rw [hc0.out, if_pos rfl] at hks
            have HKS : Aside (KeptIn c d.files (K.set i (j + 1)) i (keepN c (y.late.take (j + 1)) 0 0)) := by rw [hks]; exact hK.out.set hlt _
            have TS : Aside (Tbl (wr.setCell ⟨X, i, none⟩ (.int .i64 ((j : Int) + 1))) X (K.set i (j + 1))) := hTK.set i (j + 1)
            have TS2 : Aside _ := hTA.other (Y := X) (by omega) i (.int .i64 ((j : Int) + 1))
            have BS : Aside _ := below_set hb (X := X) (by omega) i (.int .i64 ((j : Int) + 1))
            clear hks hK hkx
            go_wp2
            go_roundg (y.late.length - (j + 1))
            case measure => omega
            case rel => exact ⟨j + 1, _, Nat.le_refl _, by omega, by go_num, BS.out, TS.out, TS2.out, HKS⟩
          · have hv0 : 0 < v := by omega
            have tA := hTA.cell (LR.out v (by omega))
            have hcc := hc1.out v hv0
            have qv : ((v : Int) == 0) = false := by rw [beq_eq_false_iff_ne]; omega
            have qv' : (v == 0) = false := by rw [beq_eq_false_iff_ne]; omega
            generalize rk (allG d.files) v = R at *
            by_cases hR : (R : Int) < last
            · have qR : decide ((R : Int) < last) = true := decide_eq_true hR
              rw [qR] at hcc
              rw [hcc, if_pos rfl] at hks
              have HKS : Aside (KeptIn c d.files (K.set i (j + 1)) i (keepN c (y.late.take (j + 1)) 0 0)) := by rw [hks]; exact hK.out.set hlt _
              have TS : Aside (Tbl (wr.setCell ⟨X, i, none⟩ (.int .i64 ((j : Int) + 1))) X (K.set i (j + 1))) := hTK.set i (j + 1)
              have TS2 : Aside _ := hTA.other (Y := X) (by omega) i (.int .i64 ((j : Int) + 1))
              have BS : Aside _ := below_set hb (X := X) (by omega) i (.int .i64 ((j : Int) + 1))
              clear hks hK hkx hcc
              go_wp2
              go_roundg (y.late.length - (j + 1))
              case measure => omega
              case rel => exact ⟨j + 1, _, Nat.le_refl _, by omega, by go_num, BS.out, TS.out, TS2.out, HKS⟩
            · have qR : decide ((R : Int) < last) = false := decide_eq_false hR
              rw [qR] at hcc
              rw [hcc, if_neg (by simp)] at hks
              have HKS : Aside (KeptIn c d.files K i (keepN c (y.late.take (j + 1)) 0 0)) := by rw [hks]; exact hK
              clear hks hK hkx hcc
              go_wp2
              go_roundg (y.late.length - (j + 1))
              case measure => omega
              case rel => exact ⟨j + 1, _, Nat.le_refl _, by omega, by go_num, hb, hTK, hTA, HKS⟩
        · obtain rfl : j = y.late.length := by omega
          have q4 : decide (y.late.length < y.late.length) = false := by simp
          rw [List.take_of_length_le (Nat.le_refl y.late.length)] at hK
          go_wp2
          go_roundg (d.files.length - (i + 1))
          case measure => omega
          case rel => exact ⟨i + 1, K, Nat.le_refl _, by omega, by go_num, hb, hTK, hTA, KN.out K hK.out⟩
    · obtain rfl : i = d.files.length := by omega
      have q3 : decide (d.files.length < d.files.length) = false := by simp
      have KF : Aside (∀ t, t < d.files.length → K[t]? = some (keepN c d.files[t]!.late 0 0)) := fun t ht => by
        have := hK.out.2 t ht
        rwa [if_pos ht] at this
      have M0 : CrM w wr B b X d d1 c K 0 d1 := by
        refine ⟨R1.out.below hb, hTK, fun hm => ?_, ?_, by rw [e1], fun t _ => by rw [e1], ?_⟩
        · have := (R1.out.lt X hm).2
          omega
        · rw [e3]
          exact S1.out.trans (Step.ofBelow hb)
        · show d1.pl = (⟨_, _, _, _, _⟩ : RS)
          have : d1.pl.files = d.pl.files := by show d1.files.map Gv.pl = _; rw [e1]; rfl
          simp only [List.take_zero, List.map_nil, List.nil_append, List.drop_zero, ← this]
      clear hK hb hTK hTA c0 hc hsm LR hc0 hc1 R1 S1
      go_wp2
      go_loopg [9] d.files.length (fun gh s9 wq => ∃ (i : Nat) (dr : Rs), d.files.length - i ≤ gh ∧ i ≤ d.files.length ∧ s9 = .int .i64 (i : Int) ∧ CrM w wq B b X d d1 c K i dr)
      case atStart => exact ⟨0, d1, by omega, by omega, rfl, M0⟩
      case round =>
        clear M0 b0
        obtain ⟨i, dr, hgi, hi, rfl, M⟩ := hrel
        have x0 := M.rep.c0
        obtain ⟨av0, cv0, ev0⟩ := own_any M.rep.tab
        by_cases hlt : i < d.files.length
        · have q5 : decide (i < d.files.length) = true := by simpa using hlt
          have hfd := getbang d.files i hlt
          have hf := (M.rest i (Nat.le_refl _)).trans hfd
          obtain ⟨hl1, hl2⟩ := hlen.out i hlt
          have hKi := KF.out i hlt
          have hkk := M.tab.cell hKi
          have hk1 := keepN_le c d.files[i]!.late 0 0 (Nat.le_refl _)
          have HN : Aside (∀ (w' : World) (d2 : Rs) (f' : Gv), RRep w' B b d2 → d2 = { dr with files := dr.files.set i f' } → f'.pl = G.crash c (d.files[i]!).pl → Step (dr.foot b) (d2.foot b) wr w' → CrM w w' B b X d d1 c K (i + 1) d2) := fun w' d2 f' a1 a2 a3 a4 => M.next hfd a1 a2 a3 a4
          have GC : Aside (G.crash c (d.files[i]!).pl = ⟨d.files[i]!.name, d.files[i]!.bytes.take (keepN c d.files[i]!.late 0 0), List.replicate (keepN c d.files[i]!.late 0 0) 0⟩) := rfl
          rw [Nat.zero_add] at hk1
          generalize keepN c d.files[i]!.late 0 0 = m at *
          generalize hy : d.files[i]! = f at *
          clear hy
          have h1 := M.rep
          obtain ⟨g, cap', ev, hcap, hcm, hg⟩ := h1.vf_form hf
          obtain ⟨y0, y1, y2⟩ := h1.fcells hf hg
          have yf := own_frozen h1.tab hg (i * 3 + 2)
          have yfb := own_frozen h1.tab hg (i * 3 + 1)
          obtain ⟨al, cl, eal⟩ := own_any (h1.rl f (List.mem_of_getElem? hf))
          have hgl := (h1.tab.lt g hg).2
          have hbl := h1.b_lt
          have hXl := M.tab.lt
          have hXb' : X ≠ b := fun e => M.out (e ▸ rfoot_b)
          have hXg : X ≠ g := fun e => M.out (e ▸ rfoot_vf hg)
          have hgb : g ≠ b := h1.b_vf hg
          have hcut := h1.cutBytes hf hg (n := m) (by omega)
          obtain ⟨av, cv, eav, hcv1, hcv2, hav⟩ : ∃ av cv, f.vb = .slice av f.bytes.length cv ∧ f.bytes.length ≤ cv ∧ cv ≤ 9223372036854775807 ∧ (av = none ∧ f.bytes.length = 0 ∧ cv = 0 ∨ ∃ gb, av = some ⟨gb, 0, none⟩) := by
            rcases (h1.rb f (List.mem_of_getElem? hf)).2 with ⟨e1, e2⟩ | ⟨gb, cap2, cur, e1, _, _, e5, e6, _, _⟩
            · exact ⟨none, 0, by rw [e1, e2], by omega, by omega, .inl ⟨rfl, e2, rfl⟩⟩
            · exact ⟨_, cap2, e1, e5, by unfold maxLen at e6; omega, .inr ⟨gb, rfl⟩⟩
          have ex0 : wr.cell? ⟨b, 0, none⟩ = some (.slice (some ⟨g, 0, none⟩) d.files.length cap') := by rw [x0, ev, M.len]
          have ey1 : wr.cell? ⟨g, i * 3 + 1, none⟩ = some (.slice av f.bytes.length cv) := by rw [y1, eav]
          have ey2 : wr.cell? ⟨g, i * 3 + 2, none⟩ = some (.slice al f.late.length cl) := by rw [y2, eal]
          have ecv : cutV f.vb m = .slice av m cv := by rw [eav]; rfl
          rw [ecv] at hcut
          have hN1 : i < dr.files.length := (List.getElem?_eq_some_iff.1 hf).1
          have hcf : ({ dr with files := dr.files.set i ⟨f.name, f.bytes.take m, f.late, .slice av m cv, f.vl⟩ } : Rs).files[i]? = some ⟨f.name, f.bytes.take m, f.late, .slice av m cv, f.vl⟩ := by
            show (dr.files.set i _)[i]? = _
            rw [List.getElem?_set]
            simp [hN1]
          have z0 := hcut.1.c0
          obtain ⟨_, z1, z2⟩ := hcut.1.fcells hcf hg
          have zf := own_frozen hcut.1.tab hg (i * 3 + 2)
          dsimp only at z0 z1 z2
          rw [ev, M.len] at z0
          rw [eal] at z2
          have tk2 := (M.tab.other hXg (i * 3 + 1) (.slice av m cv)).cell hKi
          have PL : Aside _ := And.intro hcut hcf
          have HG : Aside (dr.vf.ownBlock = some g) := hg
          have hsz : (wr.setCell ⟨g, i * 3 + 1, none⟩ (.slice av m cv)).heap.size = wr.heap.size := by simp
          have hmk := mk_ints m (by omega)
          have hmc : m ≤ cv := by omega
          have hm6 : m ≤ 60000 := by omega
          clear x0 ev0 y0 y1 y2 ev eal h1 hf hfd hg hcm hcut ecv eav hcf KF M hN1 hKi
          rcases hav with ⟨rfl, hz, rfl⟩ | ⟨gb, rfl⟩
          · obtain rfl : m = 0 := by omega
            rw [hz] at ey1
            have hmk0 : ∀ u : World, (Instr.makeSlice 87 (.int .i64 0) (.int .i64 0)).run Try.prog u = .ok (.slice (some ⟨u.heap.size, 0, none⟩) 0 0) (u.alloc (.cells (lcells (List.replicate 0 0)).toArray 3)) := hmk
            clear hmk
            go_wp2
            go_region
            all_goals
              generalize hW3 : wr.setCell ⟨g, i * 3 + 1, none⟩ (.slice none 0 0) = w3 at *
              clear ey1 ey2 ex0 yf yfb hkk
              rw [← hsz] at hgl hbl hXl
              clear hsz hW3
              have n1 : ¬ b = w3.heap.size := by omega
              have n2 : ¬ g = w3.heap.size := by omega
              have n3 : ¬ X = w3.heap.size := by omega
              have n1' : ¬ w3.heap.size = b := fun e => n1 e.symm
              have n2' : ¬ w3.heap.size = g := fun e => n2 e.symm
              have n3' : ¬ w3.heap.size = X := fun e => n3 e.symm
              have x0A : ∀ o : Obj, (w3.alloc o).cell? ⟨b, 0, none⟩ = some (.slice (some ⟨g, 0, none⟩) d.files.length cap') := fun o => cell_below z0 ((Below.refl _ _).alloc (Nat.le_refl _) o)
              have y2A : ∀ o : Obj, (w3.alloc o).cell? ⟨g, i * 3 + 2, none⟩ = some (.slice al f.late.length cl) := fun o => cell_below z2 ((Below.refl _ _).alloc (Nat.le_refl _) o)
              have yfA : ∀ o : Obj, (w3.alloc o).frozen? ⟨g, i * 3 + 2, none⟩ = false := fun o => (World.frozen?_of_block (a := ⟨g, i * 3 + 2, none⟩) (alloc_old w3 o g hgl)).trans zf
              go_wp2
              go_region
              go_wp2
              go_roundg (d.files.length - (i + 1))
              case measure => omega
              case rel =>
                obtain ⟨hcut, hcf⟩ := PL.out
                have hh := hcut.1.newLate (W := (((w3.setCell ⟨g, i * 3 + 2, none⟩ (.slice (some ⟨w3.heap.size, 0, none⟩) 0 0)).alloc (.cells (lcells []).toArray 3)).drew.drew)) hcf HG.out (List.replicate 0 0) (by rw [List.length_replicate]; omega) (by rw [List.length_replicate, World.setCell_alloc_past (hn := hgl)]; rfl) rfl rfl rfl
                exact ⟨i + 1, _, Nat.le_refl _, by omega, by go_num, HN.out _ _ ⟨f.name, f.bytes.take 0, List.replicate 0 0, .slice none 0 0, .slice (some ⟨w3.heap.size, 0, none⟩) (List.replicate 0 0).length (List.replicate 0 0).length⟩ hh.1 (by simp only [List.set_set]) GC.out.symm (hcut.2.trans hh.2)⟩
          · go_wp2
            go_region
            all_goals
              generalize hW3 : wr.setCell ⟨g, i * 3 + 1, none⟩ (.slice (some ⟨gb, 0, none⟩) m cv) = w3 at *
              clear ey1 ey2 ex0 yf yfb hkk
              rw [← hsz] at hgl hbl hXl
              clear hsz hW3
              have n1 : ¬ b = w3.heap.size := by omega
              have n2 : ¬ g = w3.heap.size := by omega
              have n3 : ¬ X = w3.heap.size := by omega
              have n1' : ¬ w3.heap.size = b := fun e => n1 e.symm
              have n2' : ¬ w3.heap.size = g := fun e => n2 e.symm
              have n3' : ¬ w3.heap.size = X := fun e => n3 e.symm
              have x0A : ∀ o : Obj, (w3.alloc o).cell? ⟨b, 0, none⟩ = some (.slice (some ⟨g, 0, none⟩) d.files.length cap') := fun o => cell_below z0 ((Below.refl _ _).alloc (Nat.le_refl _) o)
              have y2A : ∀ o : Obj, (w3.alloc o).cell? ⟨g, i * 3 + 2, none⟩ = some (.slice al f.late.length cl) := fun o => cell_below z2 ((Below.refl _ _).alloc (Nat.le_refl _) o)
              have yfA : ∀ o : Obj, (w3.alloc o).frozen? ⟨g, i * 3 + 2, none⟩ = false := fun o => (World.frozen?_of_block (a := ⟨g, i * 3 + 2, none⟩) (alloc_old w3 o g hgl)).trans zf
              go_wp2
              go_region
              go_wp2
              go_roundg (d.files.length - (i + 1))
              case measure => omega
              case rel =>
                obtain ⟨hcut, hcf⟩ := PL.out
                have hh := hcut.1.newLate (W := (((w3.setCell ⟨g, i * 3 + 2, none⟩ (.slice (some ⟨w3.heap.size, 0, none⟩) m m)).alloc (.cells (lcells (List.replicate m 0)).toArray 3)).drew.drew)) hcf HG.out (List.replicate m 0) (by rw [List.length_replicate]; omega) (by rw [List.length_replicate, World.setCell_alloc_past (hn := hgl)]; rfl) rfl rfl rfl
                exact ⟨i + 1, _, Nat.le_refl _, by omega, by go_num, HN.out _ _ ⟨f.name, f.bytes.take m, List.replicate m 0, .slice (some ⟨gb, 0, none⟩) m cv, .slice (some ⟨w3.heap.size, 0, none⟩) (List.replicate m 0).length (List.replicate m 0).length⟩ hh.1 (by simp only [List.set_set]) GC.out.symm (hcut.2.trans hh.2)⟩
        · obtain rfl : i = d.files.length := by omega
          have q5 : decide (d.files.length < d.files.length) = false := by simp
          rw [ev0, M.len] at x0
          go_wp2
          go_end0
          refine ⟨rfl, dr, M.rep, ?_, M.step⟩
          rw [M.pl, PLD.out]
          have hl : d.pl.files.length = d.files.length := by simp [Rs.pl]
          rw [List.take_of_length_le (by omega), List.drop_eq_nil_of_le (by omega), List.append_nil]
end Go.Proofs.Ytnmamaeoghgegaa.Dk

/-
  What a disk may be stays so, whatever is done.
-/
namespace Go.Proofs.Ytnmamaeoghgegaa.Dk
open Go.RowKit
set_option maxRecDepth 100000

theorem wait_keep (n m : ByteArray) (l : List Pc) : wait n (keepOf m l) = if cmp n m = 0 then 0 else wait n l := by
  induction l with
  | nil => simp [keepOf, wait_nil]
  | cons p r ih =>
    unfold keepOf at ih ⊢
    by_cases h : cmp p.name m = 0
    · have e : isOf m p = true := by simp [isOf, h]
      rw [List.filter_cons_of_neg (by simp [e]), ih, wait_cons]
      by_cases h2 : cmp n m = 0
      · rw [if_pos h2, if_pos h2]
      · rw [if_neg h2, if_neg h2, if_neg (fun e => h2 (by rw [← cmp_zero.1 e]; exact h)), Nat.zero_add]
    · have e : isOf m p = false := by simp [isOf, h]
      rw [List.filter_cons_of_pos (by simp [e]), wait_cons, ih, wait_cons]
      by_cases h2 : cmp n m = 0
      · rw [if_pos h2, if_pos h2, if_neg (fun e => h (by rw [cmp_zero.1 e]; exact h2))]
      · rw [if_neg h2, if_neg h2]

theorem wait_pos' {n : ByteArray} {p : Pc} {l : List Pc} (h : p.name = n) : wait n (p :: l) = p.size + wait n l := by rw [wait_cons, if_pos (by rw [h]; exact cmp_self n)]

theorem wait_out {n : ByteArray} {l : List Pc} (h : ∀ p ∈ l, ¬ p.name = n) : wait n l = 0 := by
  induction l with
  | nil => rfl
  | cons p r ih =>
    rw [wait_cons, if_neg (fun e => h p List.mem_cons_self (cmp_zero.1 e)), ih fun q hq => h q (List.mem_cons_of_mem _ hq)]

theorem keep_mem {m : ByteArray} {l : List Pc} {p : Pc} (h : p ∈ keepOf m l) : p ∈ l ∧ ¬ p.name = m := by
  unfold keepOf at h
  rw [List.mem_filter] at h
  refine ⟨h.1, fun e => ?_⟩
  have := h.2
  simp [isOf, e, cmp_self] at this

theorem sum_sub : ∀ {l m : List Nat}, l.Sublist m → l.sum ≤ m.sum
  | _, _, .slnil => Nat.le_refl _
  | _, _, .cons a h => by rw [List.sum_cons]; have := sum_sub h; omega
  | _, _, .cons_cons a h => by rw [List.sum_cons, List.sum_cons]; have := sum_sub h; omega

def totalF (l : List F) : Nat := (l.map fun f => f.bytes.length).sum
theorem total_eq (s : St) : s.total = totalF s.files := rfl
theorem totalF_mid (A C : List F) (f : F) : totalF (A ++ f :: C) = totalF (A ++ C) + f.bytes.length := by simp [totalF]; omega

theorem names_set {l : List F} {i : Nat} {f g : F} (hf : l[i]? = some f) (hn : g.name = f.name) : (l.set i g).map F.name = l.map F.name := by
  obtain ⟨A, C, e1, e2, _⟩ := split_at hf g
  rw [e2, e1]
  simp [hn]

theorem mem_set_ne {l : List F} (hn : (l.map F.name).Nodup) {i : Nat} {f g : F} (hf : l[i]? = some f) {x : F} (hx : x ∈ l.set i g) : x = g ∨ (x ∈ l ∧ ¬ x.name = f.name) := by
  obtain ⟨A, C, e1, e2, _⟩ := split_at hf g
  rw [e2] at hx
  rw [e1, List.map_append, List.map_cons] at hn
  obtain ⟨_, h2, h3⟩ := List.nodup_append.1 hn
  have h4 := (List.nodup_cons.1 h2).1
  rcases List.mem_append.1 hx with hx | hx
  · refine .inr ⟨by rw [e1]; exact List.mem_append_left _ hx, fun e => ?_⟩
    exact h3 x.name (List.mem_map.2 ⟨x, hx, rfl⟩) f.name List.mem_cons_self e
  · rcases List.mem_cons.1 hx with hx | hx
    · exact .inl hx
    · refine .inr ⟨by rw [e1]; exact List.mem_append_right _ (List.mem_cons_of_mem _ hx), fun e => ?_⟩
      exact h4 (List.mem_map.2 ⟨x, hx, e⟩)

theorem mem_erase_ne {l : List F} (hn : (l.map F.name).Nodup) {i : Nat} {f : F} (hf : l[i]? = some f) {x : F} : x ∈ l.eraseIdx i ↔ (x ∈ l ∧ ¬ x.name = f.name) := by
  obtain ⟨A, C, e1, _, hA⟩ := split_at hf f
  have e2 : l.eraseIdx i = A ++ C := by
    rw [e1, List.eraseIdx_append_of_length_le (by omega), hA, Nat.sub_self]
    rfl
  rw [e2]
  rw [e1, List.map_append, List.map_cons] at hn
  obtain ⟨_, h2, h3⟩ := List.nodup_append.1 hn
  have h4 := (List.nodup_cons.1 h2).1
  rw [e1]
  constructor
  · intro hx
    rcases List.mem_append.1 hx with hx | hx
    · exact ⟨List.mem_append_left _ hx, fun e => h3 x.name (List.mem_map.2 ⟨x, hx, rfl⟩) f.name List.mem_cons_self e⟩
    · exact ⟨List.mem_append_right _ (List.mem_cons_of_mem _ hx), fun e => h4 (List.mem_map.2 ⟨x, hx, e⟩)⟩
  · rintro ⟨hx, hne⟩
    rcases List.mem_append.1 hx with hx | hx
    · exact List.mem_append_left _ hx
    · rcases List.mem_cons.1 hx with hx | hx
      · exact absurd (by rw [hx]) hne
      · exact List.mem_append_right _ hx

theorem Ok.settle {s : St} (h : Ok s) {i k : Nat} {f : F} (hf : s.files[i]? = some f) (hk : k ≤ f.bytes.length) : Ok (s.settle i k) := by
  have hn := h.rising.nodup
  have hm := List.mem_of_getElem? hf
  unfold St.settle
  rw [hf]
  have en : St.names { s with files := s.files.set i ⟨f.name, f.bytes.take k, k⟩, pieces := keepOf f.name s.pieces } = s.names := names_set hf rfl
  refine ⟨by rw [en]; exact h.rising, by simpa using h.few, h.room, h.fuse, ?_, fun p hp => h.sizes p (keep_mem hp).1, ?_, fun p hp => by rw [en]; exact h.named p (keep_mem hp).1⟩
  · obtain ⟨A, C, e1, e2, _⟩ := split_at hf (⟨f.name, f.bytes.take k, k⟩ : F)
    have hu := h.used
    rw [total_eq] at hu ⊢
    simp only
    rw [e1, totalF_mid] at hu
    rw [e2, totalF_mid, List.length_take]
    omega
  · intro x hx
    rcases mem_set_ne hn hf hx with rfl | ⟨hx, hne⟩
    · simp only
      rw [wait_keep, if_pos (cmp_self _), List.length_take]
      omega
    · simp only
      rw [wait_keep, if_neg (fun e => hne (cmp_zero.1 e))]
      exact h.waits x hx

theorem Ok.drop {s : St} (h : Ok s) {i : Nat} {f : F} (hf : s.files[i]? = some f) : Ok (s.drop i) := by
  have hn := h.rising.nodup
  have hi : i < s.files.length := (List.getElem?_eq_some_iff.1 hf).1
  unfold St.drop
  rw [hf]
  have hsub : (s.files.eraseIdx i).Sublist s.files := List.eraseIdx_sublist _ _
  refine ⟨Rising.sub (hsub.map _) h.rising, by simp only; have := h.few; have := hsub.length_le; omega, h.room, h.fuse, ?_, fun p hp => h.sizes p (keep_mem hp).1, ?_, ?_⟩
  · have hu := h.used
    rw [total_eq] at hu ⊢
    simp only
    unfold totalF at hu ⊢
    have := sum_sub (hsub.map fun f : F => f.bytes.length)
    omega
  · intro x hx
    obtain ⟨hx, hne⟩ := (mem_erase_ne hn hf).1 hx
    simp only
    rw [wait_keep, if_neg (fun e => hne (cmp_zero.1 e))]
    exact h.waits x hx
  · intro p hp
    obtain ⟨hp, hne⟩ := keep_mem hp
    obtain ⟨x, hx, e⟩ := List.mem_map.1 (h.named p hp)
    exact List.mem_map.2 ⟨x, (mem_erase_ne hn hf).2 ⟨hx, fun e2 => hne (e.symm.trans e2)⟩, e⟩

theorem names_mid (l : List F) (i : Nat) (f : F) : (l.take i ++ f :: l.drop i).map F.name = (l.map F.name).take i ++ f.name :: (l.map F.name).drop i := by simp

theorem Ok.putAt {s : St} (h : Ok s) {f : F} (hn : f.name ∉ s.names) (hl : s.files.length < 16) (hs : f.sure = f.bytes.length) (hu : s.total + f.bytes.length ≤ 60000) : Ok (s.putAt (place s.names f.name) f) := by
  have hmem : ∀ x, x ∈ s.files.take (place s.names f.name) ++ f :: s.files.drop (place s.names f.name) ↔ x = f ∨ x ∈ s.files := fun x => by
    constructor
    · intro hx
      rcases List.mem_append.1 hx with hx | hx
      · exact .inr (List.mem_of_mem_take hx)
      · rcases List.mem_cons.1 hx with hx | hx
        · exact .inl hx
        · exact .inr (List.mem_of_mem_drop hx)
    · rintro (rfl | hx)
      · exact List.mem_append_right _ List.mem_cons_self
      · rw [← List.take_append_drop (place s.names f.name) s.files] at hx
        rcases List.mem_append.1 hx with hx | hx
        · exact List.mem_append_left _ hx
        · exact List.mem_append_right _ (List.mem_cons_of_mem _ hx)
  unfold St.putAt
  refine ⟨?_, ?_, h.room, h.fuse, ?_, h.sizes, ?_, ?_⟩
  · show Rising ((s.files.take (place s.names f.name) ++ f :: s.files.drop (place s.names f.name)).map F.name)
    rw [names_mid]
    exact Rising.insert h.rising f.name hn
  · simp only [List.length_append, List.length_cons, List.length_take, List.length_drop]
    omega
  · rw [total_eq] at hu ⊢
    simp only
    rw [totalF_mid, List.take_append_drop]
    exact hu
  · intro x hx
    rcases (hmem x).1 hx with rfl | hx
    · simp only
      rw [wait_out (n := x.name) (fun p hp e => hn (by rw [← e]; exact h.named p hp)), hs]
      rfl
    · exact h.waits x hx
  · intro p hp
    obtain ⟨x, hx, e⟩ := List.mem_map.1 (h.named p hp)
    exact List.mem_map.2 ⟨x, (hmem x).2 (.inr hx), e⟩

theorem Ok.more {s : St} (h : Ok s) {i : Nat} {f : F} {n x : ByteArray} (hf : s.files[i]? = some f) (hfn : f.name = n) (hx : x.size ≠ 0) (hu : s.total + x.size ≤ 60000) : Ok (s.more i n x) := by
  have hn := h.rising.nodup
  have hxs : x.data.toList.length = x.size := by rw [Array.length_toList]; rfl
  unfold St.more
  rw [hf]
  have en : St.names { s with files := s.files.set i ⟨f.name, f.bytes ++ x.data.toList, f.sure⟩, pieces := s.pieces ++ [⟨n, x.size⟩] } = s.names := names_set hf rfl
  refine ⟨by rw [en]; exact h.rising, by simpa using h.few, h.room, h.fuse, ?_, ?_, ?_, ?_⟩
  · obtain ⟨A, C, e1, e2, _⟩ := split_at hf (⟨f.name, f.bytes ++ x.data.toList, f.sure⟩ : F)
    rw [total_eq] at hu ⊢
    simp only
    rw [e1, totalF_mid] at hu
    rw [e2, totalF_mid, List.length_append, hxs]
    omega
  · intro p hp
    rcases List.mem_append.1 hp with hp | hp
    · exact h.sizes p hp
    · rw [List.mem_singleton.1 hp]
      show 0 < x.size
      omega
  · intro y hy
    rcases mem_set_ne hn hf hy with rfl | ⟨hy, hne⟩
    · simp only
      have := h.waits f (List.mem_of_getElem? hf)
      rw [wait_app, wait_pos' hfn.symm, wait_nil, List.length_append, hxs]
      simp only
      omega
    · simp only
      rw [wait_app, wait_out (l := [⟨n, x.size⟩]) (fun p hp e => hne (by rw [List.mem_singleton.1 hp] at e; rw [hfn]; exact e.symm))]
      exact h.waits y hy
  · intro p hp
    rw [en]
    rcases List.mem_append.1 hp with hp | hp
    · exact h.named p hp
    · rw [List.mem_singleton.1 hp]
      show n ∈ s.names
      rw [← hfn]
      exact List.mem_map.2 ⟨f, List.mem_of_getElem? hf, rfl⟩

theorem settle_len {s : St} (n : ByteArray) {f : F} (hf : s.files[place s.names n]? = some f) : s.len n = f.bytes.length := by
  unfold St.len
  rw [hf]

theorem Ok.opSync {s : St} (h : Ok s) (n : ByteArray) : Ok (opSync s n).2 := by
  unfold Ytnmamaeoghgegaa.Dk.opSync
  cases s.power with
  | false => exact h.spent
  | true =>
    cases hh : has s.names n with
    | false => exact h.spent
    | true =>
      obtain ⟨f, hf, hfn, hfm⟩ := has_get h.rising hh
      exact h.spent.settle (f := f) hf (by rw [settle_len n hf]; exact Nat.le_refl _)
theorem Ok.opCut {s : St} (h : Ok s) (n : ByteArray) (k : Int) : Ok (opCut s n k).2 := by
  unfold Ytnmamaeoghgegaa.Dk.opCut
  cases s.power with
  | false => exact h.spent
  | true =>
    cases hh : has s.names n with
    | false => exact h.spent
    | true =>
      obtain ⟨f, hf, hfn, hfm⟩ := has_get h.rising hh
      exact h.spent.settle (f := f) hf (by rw [settle_len n hf]; omega)
theorem Ok.opRemove {s : St} (h : Ok s) (n : ByteArray) : Ok (opRemove s n).2 := by
  unfold Ytnmamaeoghgegaa.Dk.opRemove
  cases s.power with
  | false => exact h.spent
  | true =>
    cases hh : has s.names n with
    | false => exact h.spent
    | true =>
      obtain ⟨f, hf, hfn, hfm⟩ := has_get h.rising hh
      exact h.spent.drop (f := f) hf

theorem Ok.make {s : St} (h : Ok s) (n : ByteArray) (hl : has s.names n = false → s.files.length < 16) : Ok (s.make n) ∧ (s.make n).total = s.total ∧ ∃ f, (s.make n).files[place s.names n]? = some f ∧ f.name = n := by
  unfold St.make
  cases hh : has s.names n with
  | true =>
    obtain ⟨f, hf, hfn, hfm⟩ := has_get h.rising hh
    exact ⟨h, rfl, f, hf, hfn⟩
  | false =>
    refine ⟨h.putAt (f := ⟨n, [], 0⟩) (has_not.1 hh) (hl hh) rfl (by simpa using h.used), ?_, ⟨n, [], 0⟩, ?_, rfl⟩
    · show totalF (s.files.take _ ++ _ :: s.files.drop _) = totalF s.files
      rw [totalF_mid, List.take_append_drop]
      rfl
    · have hp := place_le s.names n
      have e : s.names.length = s.files.length := by simp [St.names]
      show (s.files.take (place s.names n) ++ _ :: s.files.drop (place s.names n))[place s.names n]? = _
      rw [List.getElem?_append_right (by rw [List.length_take]; omega), List.length_take, Nat.min_eq_left (by omega), Nat.sub_self]
      rfl

theorem Ok.opAppend {s : St} (h : Ok s) (n x : ByteArray) : Ok (opAppend s n x).2 := by
  unfold Ytnmamaeoghgegaa.Dk.opAppend
  cases s.power with
  | false => exact h.spent
  | true =>
    cases mayBe n with
    | false => exact h.spent
    | true =>
      cases hf : s.full n x with
      | true => exact h.spent
      | false =>
        unfold St.full at hf
        simp only [Bool.or_eq_false_iff, Bool.and_eq_false_iff, decide_eq_false_iff_not, Bool.not_eq_false'] at hf
        have hfew := h.few
        have hr := h.room
        obtain ⟨a, b, f, hf1, hf2⟩ := h.spent.make n (fun hh => by
          have hh' : has s.names n = false := hh
          have := hf.1
          rw [hh'] at this
          show s.files.length < 16
          rcases this with e | e
          · cases e
          · omega)
        simp only [if_true, Bool.false_eq_true, if_false]
        split
        · exact a
        · rename_i hx
          refine a.more (f := f) hf1 hf2 hx ?_
          rw [b]
          show s.total + x.size ≤ 60000
          omega
end Go.Proofs.Ytnmamaeoghgegaa.Dk

/-
  What a disk may be stays so behind a crash, behind Rename, and with turned bits.
-/
namespace Go.Proofs.Ytnmamaeoghgegaa.Dk
open Go.RowKit
set_option maxRecDepth 100000

theorem surer_names (l : List F) (n : ByteArray) (k : Nat) : (surer l n k).map F.name = l.map F.name := by
  unfold surer
  rw [List.map_map]
  refine List.map_congr_left fun f _ => ?_
  show F.name (if _ then _ else _) = _
  split <;> rfl
theorem surer_bytes (l : List F) (n : ByteArray) (k : Nat) : (surer l n k).map F.bytes = l.map F.bytes := by
  unfold surer
  rw [List.map_map]
  refine List.map_congr_left fun f _ => ?_
  show F.bytes (if _ then _ else _) = _
  split <;> rfl
theorem mem_surer {l : List F} {n : ByteArray} {m : Nat} {x : F} (h : x ∈ surer l n m) : ∃ f ∈ l, x = if cmp f.name n = 0 then ⟨f.name, f.bytes, f.sure + m⟩ else f := by
  obtain ⟨f, hf, e⟩ := List.mem_map.1 h
  exact ⟨f, hf, e.symm⟩

theorem lasts_keep : ∀ (ps : List Pc) (l : List F) (left : Nat), (∀ f ∈ l, f.sure + wait f.name ps ≤ f.bytes.length) → (lasts l ps left).map F.name = l.map F.name ∧ (lasts l ps left).map F.bytes = l.map F.bytes ∧ ∀ f ∈ lasts l ps left, f.sure ≤ f.bytes.length
  | [], l, left, h => ⟨rfl, rfl, fun f hf => by have := h f hf; omega⟩
  | p :: r, l, left, h => by
    have ih := lasts_keep r (surer l p.name (min p.size left)) (left - min p.size left) (fun x hx => by
      obtain ⟨y, hy, e⟩ := mem_surer hx
      have := h y hy
      by_cases hc : cmp y.name p.name = 0
      · rw [if_pos hc] at e
        rw [wait_pos (cmp_zero.1 hc).symm] at this
        rw [e]
        show y.sure + min p.size left + wait y.name _ ≤ y.bytes.length
        omega
      · rw [if_neg hc] at e
        rw [wait_neg (fun e => hc (by rw [e]; exact cmp_self _))] at this
        rw [e]
        exact this)
    exact ⟨ih.1.trans (surer_names _ _ _), ih.2.1.trans (surer_bytes _ _ _), ih.2.2⟩

theorem Ok.opCrash {s : St} (h : Ok s) (last : Int) : Ok (opCrash s last) := by
  have hk := lasts_keep s.pieces s.files last.toNat (fun f hf => Nat.le_of_eq (h.waits f hf))
  unfold Ytnmamaeoghgegaa.Dk.opCrash
  generalize lasts s.files s.pieces last.toNat = L at hk
  obtain ⟨h1, h2, h3⟩ := hk
  have hlen : L.length = s.files.length := by have := congrArg List.length h1; simpa using this
  have en : St.names ⟨cutAll L, [], s.room, false, 0, false⟩ = s.names := by
    show (cutAll L).map F.name = _
    unfold cutAll
    rw [List.map_map]
    exact h1
  refine ⟨by rw [en]; exact h.rising, ?_, h.room, Nat.zero_le _, ?_, fun p hp => by simp at hp, ?_, fun p hp => by simp at hp⟩
  · show (cutAll L).length ≤ 16
    unfold cutAll
    rw [List.length_map, hlen]
    exact h.few
  · have hu := h.used
    rw [total_eq] at hu ⊢
    refine Nat.le_trans ?_ hu
    have e : totalF L = totalF s.files := by
      unfold totalF
      have := congrArg (fun l => (l.map List.length).sum) h2
      simpa [List.map_map, Function.comp_def] using this
    rw [← e]
    show totalF (cutAll L) ≤ totalF L
    unfold totalF cutAll
    rw [List.map_map]
    refine sum_le_map _ _ _ fun f _ => ?_
    show (f.bytes.take f.sure).length ≤ f.bytes.length
    rw [List.length_take]
    omega
  · intro f hf
    obtain ⟨y, hy, rfl⟩ := List.mem_map.1 hf
    have := h3 y hy
    show y.sure + wait _ [] = (y.bytes.take y.sure).length
    rw [wait_nil, List.length_take]
    omega

theorem drop_total {s : St} {i : Nat} {f : F} (hf : s.files[i]? = some f) : (s.drop i).total + f.bytes.length = s.total ∧ (s.drop i).files.length + 1 = s.files.length := by
  have hi : i < s.files.length := (List.getElem?_eq_some_iff.1 hf).1
  unfold St.drop
  rw [hf]
  obtain ⟨A, C, e1, _, hA⟩ := split_at hf f
  have e2 : s.files.eraseIdx i = A ++ C := by
    rw [e1, List.eraseIdx_append_of_length_le (by omega), hA, Nat.sub_self]
    rfl
  refine ⟨?_, ?_⟩
  · rw [total_eq, total_eq]
    simp only
    rw [e2, e1, totalF_mid]
  · simp only
    rw [List.length_eraseIdx_of_lt hi]
    omega

theorem drop_out {s : St} (hn : s.names.Nodup) {i : Nat} {f : F} (hf : s.files[i]? = some f) : f.name ∉ (s.drop i).names := by
  unfold St.drop
  rw [hf]
  intro hm
  obtain ⟨x, hx, e⟩ := List.mem_map.1 hm
  exact ((mem_erase_ne hn hf).1 hx).2 e

theorem Ok.free1 {s : St} (h : Ok s) (t : ByteArray) : Ok (s.free1 t) ∧ t ∉ (s.free1 t).names ∧ (s.free1 t).total ≤ s.total ∧ (s.free1 t).files.length ≤ s.files.length ∧ place (s.free1 t).names t = place s.names t := by
  unfold St.free1
  cases hh : has s.names t with
  | false => exact ⟨h, has_not.1 hh, Nat.le_refl _, Nat.le_refl _, rfl⟩
  | true =>
    obtain ⟨f, hf, hfn, hfm⟩ := has_get h.rising hh
    have ht := drop_total hf
    have hd := h.drop hf
    simp only [if_true]
    refine ⟨hd, fun hm => drop_out h.rising.nodup hf (by rw [hfn]; exact hm), by omega, by omega, ?_⟩
    have hi : place s.names t < s.files.length := (List.getElem?_eq_some_iff.1 hf).1
    have e : (s.drop (place s.names t)).names = s.names.eraseIdx (place s.names t) := by
      unfold St.drop St.names
      rw [show s.files[place (s.files.map F.name) t]? = some f from hf]
      simp only [List.eraseIdx_eq_take_drop_succ, List.map_append, List.map_take, List.map_drop]
    rw [e]
    unfold place
    have hg : s.names[s.names.countP fun x => decide (cmp x t < 0)]? = some t := by
      have := (place_mem h.rising t).1 (has_iff.1 hh)
      have h2 := getbang s.names (place s.names t) this.1
      rw [this.2] at h2
      exact h2
    obtain ⟨A, C, e1, _, hA⟩ := split_at hg t
    generalize hp : (s.names.countP fun x => decide (cmp x t < 0)) = P at *
    rw [e1, List.eraseIdx_append_of_length_le (by omega), hA, Nat.sub_self]
    show (A ++ C).countP _ = P
    rw [← hp, e1]
    simp [List.countP_append, cmp_self]

theorem Ok.opRename {s : St} (h : Ok s) (n t : ByteArray) : Ok (opRename s n t).2 := by
  unfold Ytnmamaeoghgegaa.Dk.opRename
  cases s.power with
  | false => exact h.spent
  | true =>
    cases mayBe t with
    | false => exact h.spent
    | true =>
      simp only [if_true]
      cases hh : has s.names n with
      | false => cases s.files[place s.names n]? <;> exact h.spent
      | true =>
        obtain ⟨f, hf, hfn, hfm⟩ := has_get h.rising hh
        rw [hf]
        simp only
        by_cases hlt : f.sure < f.bytes.length
        · rw [if_pos hlt]
          exact h.spent
        · rw [if_neg hlt]
          by_cases hc : cmp n t = 0
          · rw [if_pos hc]
            exact h.spent
          · rw [if_neg hc]
            have hs := h.sure hfm
            have hd := h.spent.drop (f := f) hf
            have hdt := drop_total (s := s.spent) hf
            obtain ⟨a, b, c, d, e⟩ := hd.free1 t
            have hu := h.used
            have hfew := h.few
            have e1 : s.spent.total = s.total := rfl
            have e2 : s.spent.files.length = s.files.length := rfl
            rw [← e]
            exact a.putAt (f := ⟨t, f.bytes, f.sure⟩) b (by omega) (by simp only; omega) (by simp only; omega)

theorem Ok.opRot {s : St} (h : Ok s) (file at_ by_ : Int) : Ok (opRot s file at_ by_).2 := by
  unfold Ytnmamaeoghgegaa.Dk.opRot
  split
  · split
    · rename_i f hf
      split
      · simp only
        have en : ∀ g : F, g.name = f.name → St.names { s with files := s.files.set file.toNat g } = s.names := fun g hg => names_set hf hg
        refine ⟨by rw [en (⟨f.name, f.bytes.set at_.toNat (f.bytes[at_.toNat]! ^^^ UInt8.ofNat (by_ % 256).toNat), f.sure⟩ : F) rfl]; exact h.rising, by simpa using h.few, h.room, h.fuse, ?_, h.sizes, ?_, fun p hp => by rw [en (⟨f.name, f.bytes.set at_.toNat (f.bytes[at_.toNat]! ^^^ UInt8.ofNat (by_ % 256).toNat), f.sure⟩ : F) rfl]; exact h.named p hp⟩
        · obtain ⟨A, C, e1, e2, _⟩ := split_at hf (⟨f.name, f.bytes.set at_.toNat (f.bytes[at_.toNat]! ^^^ UInt8.ofNat (by_ % 256).toNat), f.sure⟩ : F)
          have hu := h.used
          rw [total_eq] at hu ⊢
          simp only
          rw [e1, totalF_mid] at hu
          rw [e2, totalF_mid, List.length_set]
          exact hu
        · intro x hx
          rcases mem_set_ne h.rising.nodup hf hx with rfl | ⟨hx, _⟩
          · simp only
            rw [List.length_set]
            exact h.waits f (List.mem_of_getElem? hf)
          · exact h.waits x hx
      · exact h
    · exact h
  · exact h
end Go.Proofs.Ytnmamaeoghgegaa.Dk
