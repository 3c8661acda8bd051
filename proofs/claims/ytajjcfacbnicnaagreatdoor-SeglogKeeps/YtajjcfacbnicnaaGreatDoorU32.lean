/-
  YtajjcfacbnicnaaGreatDoor: the texts DP13, DE1, one behind the other.
-/
import Derived.Test.YtajjcfacbnicnaaGreatDoorU31
import Derived.Test.YtajjcfacbnicnaaGreatDoorU29
import Derived.Test.YtajjcfacbnicnaaGreatDoorU12
/-
  The document's disk: Crash.
-/
namespace Go.Proofs.YtajjcfacbnicnaaGreatDoor.Dk
open Go.RowKit
set_option maxRecDepth 100000

/-- How many of a file's bytes last: up to the last one of which c holds. -/
def keepN (c : Nat → Bool) : List Nat → Nat → Nat → Nat
  | [], _, a => a
  | n :: r, p, a => keepN c r (p + 1) (if c n then p + 1 else a)
theorem keepN_snoc (c : Nat → Bool) : ∀ (l : List Nat) (n p a : Nat), keepN c (l ++ [n]) p a = if c n then p + l.length + 1 else keepN c l p a
  | [], n, p, a => by simp [keepN]
  | x :: r, n, p, a => by
    show keepN c (r ++ [n]) (p + 1) _ = _
    rw [keepN_snoc c r n (p + 1) _]
    split
    · simp; omega
    · rfl
theorem keepN_le (c : Nat → Bool) : ∀ (l : List Nat) (p a : Nat), a ≤ p → keepN c l p a ≤ p + l.length
  | [], p, a, h => by simpa [keepN] using h
  | x :: r, p, a, h => by
    show keepN c r (p + 1) _ ≤ _
    have := keepN_le c r (p + 1) (if c x then p + 1 else a) (by split <;> omega)
    simp; omega
def lastsC (l : List Nat) (last : Int) (n : Nat) : Bool := decide (n = 0) || decide ((rk l n : Int) < last)
def RS.all (s : RS) : List Nat := s.files.flatMap G.late
def G.crash (c : Nat → Bool) (f : G) : G := ⟨f.name, f.bytes.take (keepN c f.late 0 0), List.replicate (keepN c f.late 0 0) 0⟩
def rCrash (s : RS) (last : Int) : RS := { s with left := -1, down := false, files := s.files.map (G.crash (lastsC s.all last)) }

theorem all_pl (d : Rs) : d.pl.all = allG d.files := by
  unfold RS.all allG Rs.pl
  simp only [List.flatMap_map]
  rfl

theorem RRep.reborn {w : World} {B b : Nat} {d : Rs} (h : RRep w B b d) : RRep ((w.setCell ⟨b, 3, none⟩ (.int .i64 (-1))).setCell ⟨b, 4, none⟩ (.bool false)) B b { d with left := -1, down := false } ∧ Step (d.foot b) (d.foot b) w ((w.setCell ⟨b, 3, none⟩ (.int .i64 (-1))).setCell ⟨b, 4, none⟩ (.bool false)) := by
  refine ⟨h.scal rfl rfl ?_ ?_, (Step.setb w rfoot_b 3 _).trans (Step.setb _ rfoot_b 4 _)⟩
  · exact set_same (set_same h.blk rfl) rfl
  · intro k hk
    exact (Below.heap_setCell _ ⟨b, 4, none⟩ _ k hk).trans (Below.heap_setCell w ⟨b, 3, none⟩ _ k hk)

/-- The table of what lasts, of the files ahead of i; v: of file i. -/
def KeptIn (c : Nat → Bool) (l : List Gv) (K : List Nat) (i v : Nat) : Prop := K.length = l.length ∧ ∀ t, t < l.length → K[t]? = some (if t < i then keepN c l[t]!.late 0 0 else if t = i then v else 0)
theorem KeptIn.start (c : Nat → Bool) (l : List Gv) : KeptIn c l (List.replicate l.length 0) 0 0 := ⟨by simp, fun t ht => by
  rw [List.getElem?_replicate, if_pos ht]
  congr 1
  split
  · omega
  · split <;> rfl⟩
theorem KeptIn.set {c : Nat → Bool} {l : List Gv} {K : List Nat} {i v : Nat} (h : KeptIn c l K i v) (hi : i < l.length) (v' : Nat) : KeptIn c l (K.set i v') i v' := ⟨by rw [List.length_set]; exact h.1, fun t ht => by
  rw [List.getElem?_set]
  by_cases e : i = t
  · rw [if_pos e, if_pos (by rw [h.1]; omega), if_neg (by omega), if_pos e.symm]
  · rw [if_neg e, h.2 t ht]
    congr 1
    by_cases h2 : t < i
    · rw [if_pos h2, if_pos h2]
    · rw [if_neg h2, if_neg h2, if_neg (fun e' => e e'.symm), if_neg (fun e' => e e'.symm)]⟩
theorem KeptIn.next {c : Nat → Bool} {l : List Gv} {K : List Nat} {i : Nat} (h : KeptIn c l K i (keepN c l[i]!.late 0 0)) : KeptIn c l K (i + 1) 0 := ⟨h.1, fun t ht => by
  rw [h.2 t ht]
  congr 1
  by_cases h2 : t < i
  · rw [if_pos h2, if_pos (by omega)]
  · rw [if_neg h2]
    by_cases e : t = i
    · subst e
      rw [if_pos rfl, if_pos (by omega)]
    · rw [if_neg e, if_neg (by omega)]
      split <;> rfl⟩

theorem Tbl.other {w : World} {X Y : Nat} {L : List Nat} (h : Tbl w X L) (hne : X ≠ Y) (k : Nat) (v : Value) : Tbl (w.setCell ⟨Y, k, none⟩ v) X L := h.frame (Below.heap_setCell w ⟨Y, k, none⟩ v X hne)

/-- In the midst of it: the files ahead of i are cut. -/
structure CrM (w wr : World) (B b X : Nat) (d d1 : Rs) (c : Nat → Bool) (K : List Nat) (i : Nat) (dr : Rs) : Prop where
  rep : RRep wr B b dr
  tab : Tbl wr X K
  out : X ∉ dr.foot b
  step : Step (d.foot b) (dr.foot b) w wr
  len : dr.files.length = d.files.length
  rest : ∀ t, i ≤ t → dr.files[t]? = d.files[t]?
  pl : dr.pl = { d1.pl with files := (d.pl.files.take i).map (G.crash c) ++ d.pl.files.drop i }

theorem set_mid {α : Type} {A C : List α} {x y : α} {i : Nat} (h : A.length = i) : (A ++ x :: C).set i y = A ++ y :: C := by
  subst h
  simp

theorem CrM.next {w wr w' : World} {B b X i : Nat} {d d1 dr d2 : Rs} {c : Nat → Bool} {K : List Nat} {f f' : Gv} (h : CrM w wr B b X d d1 c K i dr) (hf : d.files[i]? = some f) (hr : RRep w' B b d2) (hd : d2 = { dr with files := dr.files.set i f' }) (he : f'.pl = G.crash c f.pl) (hs : Step (dr.foot b) (d2.foot b) wr w') : CrM w w' B b X d d1 c K (i + 1) d2 := by
  have hi : i < d.files.length := (List.getElem?_eq_some_iff.1 hf).1
  refine ⟨hr, h.tab.frame (hs.block X h.tab.lt h.out), fun hm => ?_, h.step.trans hs, by rw [hd]; show (dr.files.set i f').length = _; rw [List.length_set]; exact h.len, fun t ht => ?_, ?_⟩
  · rcases hs.sub X hm with e | e
    · exact h.out e
    · have := h.tab.lt
      omega
  · rw [hd]
    show (dr.files.set i f')[t]? = _
    rw [List.getElem?_set, if_neg (by omega)]
    exact h.rest t (by omega)
  · have hp := h.pl
    have hdrop : d.pl.files.drop i = f.pl :: d.pl.files.drop (i + 1) := by
      have hl : i < d.pl.files.length := by simpa [Rs.pl] using hi
      rw [List.drop_eq_getElem_cons hl]
      have := rpl_get hf
      rw [List.getElem?_eq_getElem hl] at this
      rw [Option.some.inj this]
    rw [hd]
    show (⟨(dr.files.set i f').map Gv.pl, dr.count, dr.most, dr.left, dr.down⟩ : RS) = _
    rw [List.map_set]
    have e1 : dr.files.map Gv.pl = (d.pl.files.take i).map (G.crash c) ++ d.pl.files.drop i := congrArg RS.files hp
    have hla : ((d.pl.files.take i).map (G.crash c)).length = i := by
      simp [Rs.pl]; omega
    rw [e1, hdrop, set_mid hla, he]
    have e2 : d.pl.files.take (i + 1) = d.pl.files.take i ++ [f.pl] := by
      rw [List.take_add_one, rpl_get hf]
      rfl
    rw [e2, List.map_append, List.append_assoc]
    have e3 : dr.count = d1.pl.count := congrArg RS.count hp
    have e4 : dr.most = d1.pl.most := congrArg RS.most hp
    have e5 : dr.left = d1.pl.left := congrArg RS.left hp
    have e6 : dr.down = d1.pl.down := congrArg RS.down hp
    rw [e3, e4, e5, e6]
    rfl

set_option maxHeartbeats 4000000 in
theorem rcrash_any {w : World} {B b : Nat} {d : Rs} (h : RRep w B b d) (ok : ROk d.pl) (last : Int) :
    Calls Tryz.prog 18 #[.pointer (some ⟨b, 0, none⟩), .int .i64 last] w fun e w' => e = .returned (.tuple #[]) ∧ ∃ d', RRep w' B b d' ∧ d'.pl = rCrash d.pl last ∧ Step (d.foot b) (d'.foot b) w w' := by
  obtain ⟨r1, s1⟩ := h.reborn
  have ok1 : ROk (Rs.pl { d with left := -1, down := false }) := ⟨ok.few, ok.most, by show (-1 : Int) ≤ _; omega, ok.used, ok.lates, ok.count, ok.small⟩
  have hfew : d.files.length ≤ 16 := by simpa [Rs.pl] using ok.few
  have hcnt : d.count ≤ 1000000 := ok.count
  have c3 := h.c3
  have c4 := h.c4
  have f3 := h.fz 3
  have f4 := h.fz 4
  have g4 : (w.setCell ⟨b, 3, none⟩ (.int .i64 (-1))).cell? ⟨b, 4, none⟩ = some (.bool d.down) := by rw [cell_of_row _ b 4 _ _ _ (set_same h.blk rfl)]; rfl
  have g4f : (w.setCell ⟨b, 3, none⟩ (.int .i64 (-1))).frozen? ⟨b, 4, none⟩ = false := frozen_of_row _ b 4 _ _ (set_same h.blk rfl)
  obtain ⟨a, cap, ev, hc'⟩ := r1.row
  have c0 := r1.c0
  rw [ev] at c0
  have hmk := mk_ints d.files.length (by omega)
  have hlen : Aside (∀ t, t < d.files.length → d.files[t]!.late.length ≤ 60000 ∧ d.files[t]!.late.length = d.files[t]!.bytes.length) := fun t ht => by
    have hm := List.mem_of_getElem? (getbang d.files t ht)
    have h1 := ok.lates (d.files[t]!).pl (List.mem_map.2 ⟨_, hm, rfl⟩)
    have h2 := mem_le_sum d.pl.files (fun f => f.bytes.length) (x := (d.files[t]!).pl) (List.mem_map.2 ⟨_, hm, rfl⟩)
    have h3 := ok.used
    simp only [Gv.pl] at h1 h2
    omega
  have hsm : Aside (∀ t, t < d.files.length → ∀ j, j < d.files[t]!.late.length → d.files[t]!.late[j]! ≤ d.count) := fun t ht j hj => by
    have hm := List.mem_of_getElem? (getbang d.files t ht)
    exact ok.small (d.files[t]!).pl (List.mem_map.2 ⟨_, hm, rfl⟩) _ (List.mem_of_getElem? (getbang _ j hj))
  have PLD : Aside (rCrash d.pl last = { (Rs.pl { d with left := -1, down := false }) with files := d.pl.files.map (G.crash (lastsC (allG d.files) last)) }) := by
    show _ = _
    unfold rCrash
    rw [all_pl]
    rfl
  obtain ⟨d1, hd1⟩ : ∃ d1 : Rs, d1 = { d with left := -1, down := false } := ⟨_, rfl⟩
  rw [← hd1] at r1 ok1 PLD
  have e1 : d1.files = d.files := by rw [hd1]
  have e2 : d1.count = d.count := by rw [hd1]
  have e3 : d1.foot b = d.foot b := by rw [hd1]; rfl
  have e4 : d1.vf = d.vf := by rw [hd1]
  simp only [] at hc' ev
  have hc : Aside (∀ t, t < d.files.length → ∃ g a' c' a'' c'', a = some ⟨g, 0, none⟩ ∧ ((w.setCell ⟨b, 3, none⟩ (.int .i64 (-1))).setCell ⟨b, 4, none⟩ (.bool false)).cell? ⟨g, t * 3, none⟩ = some (.string d.files[t]!.name) ∧ ((w.setCell ⟨b, 3, none⟩ (.int .i64 (-1))).setCell ⟨b, 4, none⟩ (.bool false)).cell? ⟨g, t * 3 + 1, none⟩ = some (.slice a' d.files[t]!.bytes.length c') ∧ ((w.setCell ⟨b, 3, none⟩ (.int .i64 (-1))).setCell ⟨b, 4, none⟩ (.bool false)).cell? ⟨g, t * 3 + 2, none⟩ = some (.slice a'' d.files[t]!.late.length c'') ∧ ∀ k, k < d.files[t]!.late.length → ∃ gl, a'' = some ⟨gl, 0, none⟩ ∧ ((w.setCell ⟨b, 3, none⟩ (.int .i64 (-1))).setCell ⟨b, 4, none⟩ (.bool false)).cell? ⟨gl, k, none⟩ = some (.int .i64 (d.files[t]!.late[k]! : Int))) := hc'
  have R1 : Aside _ := r1
  have S1 : Aside _ := s1
  have K53 : Aside (∀ o : Obj, _) := fun o : Obj => ranks_any (r1.below ((Below.refl _ _).alloc (Nat.le_refl _) o)) ok1
  rw [e1, e2] at K53
  clear h ok ok1 r1 s1 hc' hd1 ev
  have HB : Aside (b < w.heap.size) := by have := R1.out.b_lt; show _ < _; simpa using this
  go_enter Tryz.func18, Tryz.ntmps18
  go_wp2_with (go_at_call 55; refine (K53.out _).mono ?_; rintro e w3 ⟨rfl, hb3, LA, hTA, hLA, hLr⟩)
  have hsz : ((w.setCell ⟨b, 3, none⟩ (.int .i64 (-1))).setCell ⟨b, 4, none⟩ (.bool false)).heap.size = w.heap.size := by simp
  generalize (w.setCell ⟨b, 3, none⟩ (.int .i64 (-1))).setCell ⟨b, 4, none⟩ (.bool false) = w1 at *
  have hsz2 : (w1.alloc (.cells (lcells (List.replicate d.files.length 0)).toArray 3)).heap.size = w.heap.size + 1 := by simp [hsz]
  rw [hsz2] at hTA
  have hTK : Tbl w3 w.heap.size (List.replicate d.files.length 0) := by
    refine Tbl.frame (w := w1.alloc (.cells (lcells (List.replicate d.files.length 0)).toArray 3)) ?_ (hb3.block _ (by rw [hsz2]; omega))
    rw [← hsz]
    exact heap_alloc_new w1 _
  have hb : Below w1.heap.size w1 w3 := ((Below.refl _ _).alloc (Nat.le_refl _) _).trans (hb3.mono (by rw [hsz2, hsz]; omega))
  obtain ⟨c, hcd⟩ : ∃ c, c = lastsC (allG d.files) last := ⟨_, rfl⟩
  rw [← hcd] at PLD
  have hc0 : Aside (c 0 = true) := by show _ = _; rw [hcd]; rfl
  have hc1 : Aside (∀ n, 0 < n → c n = decide ((rk (allG d.files) n : Int) < last)) := fun n hn => by
    rw [hcd]
    unfold lastsC
    rw [decide_eq_false (by omega), Bool.false_or]
  have LR : Aside (∀ j, j < d.count + 2 → LA[j]? = some (rk (allG d.files) j)) := hLr
  have HX : w.heap.size = w1.heap.size := hsz.symm
  clear hcd hb3 hLr hLA hsz2 hsz K53 c3 c4 f3 f4 g4 g4f hmk
  generalize hX1 : w.heap.size = X at *
  have hXa : X ≤ w1.heap.size := by omega
  have hXb : w1.heap.size ≤ X := by omega
  have HX1 : Aside (w.heap.size = X) := hX1
  clear hX1 HX
  go_loopg [6, 7, 8] d.files.length (fun gh s6 _ _ wr => ∃ (i : Nat) (K : List Nat), d.files.length - i ≤ gh ∧ i ≤ d.files.length ∧ s6 = .int .i64 (i : Int) ∧ Below w1.heap.size w1 wr ∧ Tbl wr X K ∧ Tbl wr (X + 1) LA ∧ Aside (KeptIn c d.files K i 0))
  case atStart => exact ⟨0, _, by omega, by omega, rfl, hb, hTK, hTA, KeptIn.start c d.files⟩
  case round =>
    clear hb hTK hTA
    obtain ⟨i, K, hgh, hi, rfl, hb, hTK, hTA, hK⟩ := hrel
    have b0 := cell_below c0 hb
    by_cases hlt : i < d.files.length
    · have q3 : decide (i < d.files.length) = true := by simpa using hlt
      obtain ⟨g, a', c', a'', c'', rfl, y0, y1, y2, y3⟩ := hc.out i hlt
      have E3 : Aside _ := y3
      have SM : Aside _ := hsm.out i hlt
      have hle := (hlen.out i hlt).1
      have b2 := cell_below y2 hb
      have KN : Aside (∀ K, KeptIn c d.files K i (keepN c d.files[i]!.late 0 0) → KeptIn c d.files K (i + 1) 0) := fun K h => h.next
      generalize hy : d.files[i]! = y at *
      clear hy y3 y0 y1
      go_wp2
      go_loopg [7, 8] y.late.length (fun gj s7 _ wq => ∃ (j : Nat) (K : List Nat), y.late.length - j ≤ gj ∧ j ≤ y.late.length ∧ s7 = .int .i64 (j : Int) ∧ Below w1.heap.size w1 wq ∧ Tbl wq X K ∧ Tbl wq (X + 1) LA ∧ Aside (KeptIn c d.files K i (keepN c (y.late.take j) 0 0)))
      case atStart => exact ⟨0, K, by omega, by omega, rfl, hb, hTK, hTA, hK⟩
      case round =>
        clear hb hTK hTA hK b0 b2 K
        obtain ⟨j, K, hgj, hj, rfl, hb, hTK, hTA, hK⟩ := hrel
        have b0 := cell_below c0 hb
        have b2 := cell_below y2 hb
        by_cases hjl : j < y.late.length
        · have q4 : decide (j < y.late.length) = true := by simpa using hjl
          obtain ⟨gl, rfl, e4⟩ := E3.out j hjl
          have b4 := cell_below e4 hb
          have hv1 := SM.out j hjl
          have hnx := lates_next y.late j hjl
          generalize y.late[j]! = v at *
          have hks : keepN c (y.late.take (j + 1)) 0 0 = if c v then j + 1 else keepN c (y.late.take j) 0 0 := by
            rw [hnx, keepN_snoc, List.length_take, Nat.min_eq_left (by omega)]
            simp
          clear hnx e4
          have hkx := hK.out.2 i hlt
          rw [if_neg (by omega), if_pos rfl] at hkx
          have tk := hTK.cell hkx
          have tf := hTK.fz i
          have hcv : c v = true ∨ c v = false := by cases c v <;> simp
          by_cases hv : v = 0
          · subst hv
            rw [hc0.out, if_pos rfl] at hks
            have HKS : Aside (KeptIn c d.files (K.set i (j + 1)) i (keepN c (y.late.take (j + 1)) 0 0)) := by rw [hks]; exact hK.out.set hlt _
            have TS : Aside (Tbl (wr.setCell ⟨X, i, none⟩ (.int .i64 ((j : Int) + 1))) X (K.set i (j + 1))) := hTK.set i (j + 1)
            have TS2 : Aside _ := hTA.other (Y := X) (by omega) i (.int .i64 ((j : Int) + 1))
            have BS : Aside _ := below_set hb (X := X) (by omega) i (.int .i64 ((j : Int) + 1))
            clear hks hK hkx
            go_wp2
            go_roundg (y.late.length - (j + 1))
            case measure => omega
            case rel => exact ⟨j + 1, _, Nat.le_refl _, by omega, by go_num, BS.out, TS.out, TS2.out, HKS⟩
          · have hv0 : 0 < v := by omega
            have tA := hTA.cell (LR.out v (by omega))
            have hcc := hc1.out v hv0
            have qv : ((v : Int) == 0) = false := by rw [beq_eq_false_iff_ne]; omega
            have qv' : (v == 0) = false := by rw [beq_eq_false_iff_ne]; omega
            generalize rk (allG d.files) v = R at *
            by_cases hR : (R : Int) < last
            · have qR : decide ((R : Int) < last) = true := decide_eq_true hR
              rw [qR] at hcc
              rw [hcc, if_pos rfl] at hks
              have HKS : Aside (KeptIn c d.files (K.set i (j + 1)) i (keepN c (y.late.take (j + 1)) 0 0)) := by rw [hks]; exact hK.out.set hlt _
              have TS : Aside (Tbl (wr.setCell ⟨X, i, none⟩ (.int .i64 ((j : Int) + 1))) X (K.set i (j + 1))) := hTK.set i (j + 1)
              have TS2 : Aside _ := hTA.other (Y := X) (by omega) i (.int .i64 ((j : Int) + 1))
              have BS : Aside _ := below_set hb (X := X) (by omega) i (.int .i64 ((j : Int) + 1))
              clear hks hK hkx hcc
              go_wp2
              go_roundg (y.late.length - (j + 1))
              case measure => omega
              case rel => exact ⟨j + 1, _, Nat.le_refl _, by omega, by go_num, BS.out, TS.out, TS2.out, HKS⟩
            · have qR : decide ((R : Int) < last) = false := decide_eq_false hR
              rw [qR] at hcc
              rw [hcc, if_neg (by simp)] at hks
              have HKS : Aside (KeptIn c d.files K i (keepN c (y.late.take (j + 1)) 0 0)) := by rw [hks]; exact hK
              clear hks hK hkx hcc
              go_wp2
              go_roundg (y.late.length - (j + 1))
              case measure => omega
              case rel => exact ⟨j + 1, _, Nat.le_refl _, by omega, by go_num, hb, hTK, hTA, HKS⟩
        · obtain rfl : j = y.late.length := by omega
          have q4 : decide (y.late.length < y.late.length) = false := by simp
          rw [List.take_of_length_le (Nat.le_refl y.late.length)] at hK
          go_wp2
          go_roundg (d.files.length - (i + 1))
          case measure => omega
          case rel => exact ⟨i + 1, K, Nat.le_refl _, by omega, by go_num, hb, hTK, hTA, KN.out K hK.out⟩
    · obtain rfl : i = d.files.length := by omega
      have q3 : decide (d.files.length < d.files.length) = false := by simp
      have KF : Aside (∀ t, t < d.files.length → K[t]? = some (keepN c d.files[t]!.late 0 0)) := fun t ht => by
        have := hK.out.2 t ht
        rwa [if_pos ht] at this
      have M0 : CrM w wr B b X d d1 c K 0 d1 := by
        refine ⟨R1.out.below hb, hTK, fun hm => ?_, ?_, by rw [e1], fun t _ => by rw [e1], ?_⟩
        · have := (R1.out.lt X hm).2
          omega
        · rw [e3]
          exact S1.out.trans (Step.ofBelow hb)
        · show d1.pl = (⟨_, _, _, _, _⟩ : RS)
          have : d1.pl.files = d.pl.files := by show d1.files.map Gv.pl = _; rw [e1]; rfl
          simp only [List.take_zero, List.map_nil, List.nil_append, List.drop_zero, ← this]
      clear hK hb hTK hTA c0 hc hsm LR hc0 hc1 R1 S1
      go_wp2
      go_loopg [9] d.files.length (fun gh s9 wq => ∃ (i : Nat) (dr : Rs), d.files.length - i ≤ gh ∧ i ≤ d.files.length ∧ s9 = .int .i64 (i : Int) ∧ CrM w wq B b X d d1 c K i dr)
      case atStart => exact ⟨0, d1, by omega, by omega, rfl, M0⟩
      case round =>
        clear M0 b0
        obtain ⟨i, dr, hgi, hi, rfl, M⟩ := hrel
        have x0 := M.rep.c0
        obtain ⟨av0, cv0, ev0⟩ := own_any M.rep.tab
        by_cases hlt : i < d.files.length
        · have q5 : decide (i < d.files.length) = true := by simpa using hlt
          have hfd := getbang d.files i hlt
          have hf := (M.rest i (Nat.le_refl _)).trans hfd
          obtain ⟨hl1, hl2⟩ := hlen.out i hlt
          have hKi := KF.out i hlt
          have hkk := M.tab.cell hKi
          have hk1 := keepN_le c d.files[i]!.late 0 0 (Nat.le_refl _)
          have HN : Aside (∀ (w' : World) (d2 : Rs) (f' : Gv), RRep w' B b d2 → d2 = { dr with files := dr.files.set i f' } → f'.pl = G.crash c (d.files[i]!).pl → Step (dr.foot b) (d2.foot b) wr w' → CrM w w' B b X d d1 c K (i + 1) d2) := fun w' d2 f' a1 a2 a3 a4 => M.next hfd a1 a2 a3 a4
          have GC : Aside (G.crash c (d.files[i]!).pl = ⟨d.files[i]!.name, d.files[i]!.bytes.take (keepN c d.files[i]!.late 0 0), List.replicate (keepN c d.files[i]!.late 0 0) 0⟩) := rfl
          rw [Nat.zero_add] at hk1
          generalize keepN c d.files[i]!.late 0 0 = m at *
          generalize hy : d.files[i]! = f at *
          clear hy
          have h1 := M.rep
          obtain ⟨g, cap', ev, hcap, hcm, hg⟩ := h1.vf_form hf
          obtain ⟨y0, y1, y2⟩ := h1.fcells hf hg
          have yf := own_frozen h1.tab hg (i * 3 + 2)
          have yfb := own_frozen h1.tab hg (i * 3 + 1)
          obtain ⟨al, cl, eal⟩ := own_any (h1.rl f (List.mem_of_getElem? hf))
          have hgl := (h1.tab.lt g hg).2
          have hbl := h1.b_lt
          have hXl := M.tab.lt
          have hXb' : X ≠ b := fun e => M.out (e ▸ rfoot_b)
          have hXg : X ≠ g := fun e => M.out (e ▸ rfoot_vf hg)
          have hgb : g ≠ b := h1.b_vf hg
          have hcut := h1.cutBytes hf hg (n := m) (by omega)
          obtain ⟨av, cv, eav, hcv1, hcv2, hav⟩ : ∃ av cv, f.vb = .slice av f.bytes.length cv ∧ f.bytes.length ≤ cv ∧ cv ≤ 9223372036854775807 ∧ (av = none ∧ f.bytes.length = 0 ∧ cv = 0 ∨ ∃ gb, av = some ⟨gb, 0, none⟩) := by
            rcases (h1.rb f (List.mem_of_getElem? hf)).2 with ⟨e1, e2⟩ | ⟨gb, cap2, cur, e1, _, _, e5, e6, _, _⟩
            · exact ⟨none, 0, by rw [e1, e2], by omega, by omega, .inl ⟨rfl, e2, rfl⟩⟩
            · exact ⟨_, cap2, e1, e5, by unfold maxLen at e6; omega, .inr ⟨gb, rfl⟩⟩
          have ex0 : wr.cell? ⟨b, 0, none⟩ = some (.slice (some ⟨g, 0, none⟩) d.files.length cap') := by rw [x0, ev, M.len]
          have ey1 : wr.cell? ⟨g, i * 3 + 1, none⟩ = some (.slice av f.bytes.length cv) := by rw [y1, eav]
          have ey2 : wr.cell? ⟨g, i * 3 + 2, none⟩ = some (.slice al f.late.length cl) := by rw [y2, eal]
          have ecv : cutV f.vb m = .slice av m cv := by rw [eav]; rfl
          rw [ecv] at hcut
          have hN1 : i < dr.files.length := (List.getElem?_eq_some_iff.1 hf).1
          have hcf : ({ dr with files := dr.files.set i ⟨f.name, f.bytes.take m, f.late, .slice av m cv, f.vl⟩ } : Rs).files[i]? = some ⟨f.name, f.bytes.take m, f.late, .slice av m cv, f.vl⟩ := by
            show (dr.files.set i _)[i]? = _
            rw [List.getElem?_set]
            simp [hN1]
          have z0 := hcut.1.c0
          obtain ⟨_, z1, z2⟩ := hcut.1.fcells hcf hg
          have zf := own_frozen hcut.1.tab hg (i * 3 + 2)
          dsimp only at z0 z1 z2
          rw [ev, M.len] at z0
          rw [eal] at z2
          have tk2 := (M.tab.other hXg (i * 3 + 1) (.slice av m cv)).cell hKi
          have PL : Aside _ := And.intro hcut hcf
          have HG : Aside (dr.vf.ownBlock = some g) := hg
          have hsz : (wr.setCell ⟨g, i * 3 + 1, none⟩ (.slice av m cv)).heap.size = wr.heap.size := by simp
          have hmk := mk_ints m (by omega)
          have hmc : m ≤ cv := by omega
          have hm6 : m ≤ 60000 := by omega
          clear x0 ev0 y0 y1 y2 ev eal h1 hf hfd hg hcm hcut ecv eav hcf KF M hN1 hKi
          rcases hav with ⟨rfl, hz, rfl⟩ | ⟨gb, rfl⟩
          · obtain rfl : m = 0 := by omega
            rw [hz] at ey1
            have hmk0 : ∀ u : World, (Instr.makeSlice 60 (.int .i64 0) (.int .i64 0)).run Tryz.prog u = .ok (.slice (some ⟨u.heap.size, 0, none⟩) 0 0) (u.alloc (.cells (lcells (List.replicate 0 0)).toArray 3)) := hmk
            clear hmk
            go_wp2
            go_region
            all_goals
              generalize hW3 : wr.setCell ⟨g, i * 3 + 1, none⟩ (.slice none 0 0) = w3 at *
              clear ey1 ey2 ex0 yf yfb hkk
              rw [← hsz] at hgl hbl hXl
              clear hsz hW3
              have n1 : ¬ b = w3.heap.size := by omega
              have n2 : ¬ g = w3.heap.size := by omega
              have n3 : ¬ X = w3.heap.size := by omega
              have n1' : ¬ w3.heap.size = b := fun e => n1 e.symm
              have n2' : ¬ w3.heap.size = g := fun e => n2 e.symm
              have n3' : ¬ w3.heap.size = X := fun e => n3 e.symm
              have x0A : ∀ o : Obj, (w3.alloc o).cell? ⟨b, 0, none⟩ = some (.slice (some ⟨g, 0, none⟩) d.files.length cap') := fun o => cell_below z0 ((Below.refl _ _).alloc (Nat.le_refl _) o)
              have y2A : ∀ o : Obj, (w3.alloc o).cell? ⟨g, i * 3 + 2, none⟩ = some (.slice al f.late.length cl) := fun o => cell_below z2 ((Below.refl _ _).alloc (Nat.le_refl _) o)
              have yfA : ∀ o : Obj, (w3.alloc o).frozen? ⟨g, i * 3 + 2, none⟩ = false := fun o => (World.frozen?_of_block (a := ⟨g, i * 3 + 2, none⟩) (alloc_old w3 o g hgl)).trans zf
              go_wp2
              go_region
              go_wp2
              go_roundg (d.files.length - (i + 1))
              case measure => omega
              case rel =>
                obtain ⟨hcut, hcf⟩ := PL.out
                have hh := hcut.1.newLate (W := (((w3.setCell ⟨g, i * 3 + 2, none⟩ (.slice (some ⟨w3.heap.size, 0, none⟩) 0 0)).alloc (.cells (lcells []).toArray 3)).drew.drew)) hcf HG.out (List.replicate 0 0) (by rw [List.length_replicate]; omega) (by rw [List.length_replicate, World.setCell_alloc_past (hn := hgl)]; rfl) rfl rfl rfl
                exact ⟨i + 1, _, Nat.le_refl _, by omega, by go_num, HN.out _ _ ⟨f.name, f.bytes.take 0, List.replicate 0 0, .slice none 0 0, .slice (some ⟨w3.heap.size, 0, none⟩) (List.replicate 0 0).length (List.replicate 0 0).length⟩ hh.1 (by simp only [List.set_set]) GC.out.symm (hcut.2.trans hh.2)⟩
          · go_wp2
            go_region
            all_goals
              generalize hW3 : wr.setCell ⟨g, i * 3 + 1, none⟩ (.slice (some ⟨gb, 0, none⟩) m cv) = w3 at *
              clear ey1 ey2 ex0 yf yfb hkk
              rw [← hsz] at hgl hbl hXl
              clear hsz hW3
              have n1 : ¬ b = w3.heap.size := by omega
              have n2 : ¬ g = w3.heap.size := by omega
              have n3 : ¬ X = w3.heap.size := by omega
              have n1' : ¬ w3.heap.size = b := fun e => n1 e.symm
              have n2' : ¬ w3.heap.size = g := fun e => n2 e.symm
              have n3' : ¬ w3.heap.size = X := fun e => n3 e.symm
              have x0A : ∀ o : Obj, (w3.alloc o).cell? ⟨b, 0, none⟩ = some (.slice (some ⟨g, 0, none⟩) d.files.length cap') := fun o => cell_below z0 ((Below.refl _ _).alloc (Nat.le_refl _) o)
              have y2A : ∀ o : Obj, (w3.alloc o).cell? ⟨g, i * 3 + 2, none⟩ = some (.slice al f.late.length cl) := fun o => cell_below z2 ((Below.refl _ _).alloc (Nat.le_refl _) o)
              have yfA : ∀ o : Obj, (w3.alloc o).frozen? ⟨g, i * 3 + 2, none⟩ = false := fun o => (World.frozen?_of_block (a := ⟨g, i * 3 + 2, none⟩) (alloc_old w3 o g hgl)).trans zf
              go_wp2
              go_region
              go_wp2
              go_roundg (d.files.length - (i + 1))
              case measure => omega
              case rel =>
                obtain ⟨hcut, hcf⟩ := PL.out
                have hh := hcut.1.newLate (W := (((w3.setCell ⟨g, i * 3 + 2, none⟩ (.slice (some ⟨w3.heap.size, 0, none⟩) m m)).alloc (.cells (lcells (List.replicate m 0)).toArray 3)).drew.drew)) hcf HG.out (List.replicate m 0) (by rw [List.length_replicate]; omega) (by rw [List.length_replicate, World.setCell_alloc_past (hn := hgl)]; rfl) rfl rfl rfl
                exact ⟨i + 1, _, Nat.le_refl _, by omega, by go_num, HN.out _ _ ⟨f.name, f.bytes.take m, List.replicate m 0, .slice (some ⟨gb, 0, none⟩) m cv, .slice (some ⟨w3.heap.size, 0, none⟩) (List.replicate m 0).length (List.replicate m 0).length⟩ hh.1 (by simp only [List.set_set]) GC.out.symm (hcut.2.trans hh.2)⟩
        · obtain rfl : i = d.files.length := by omega
          have q5 : decide (d.files.length < d.files.length) = false := by simp
          rw [ev0, M.len] at x0
          go_wp2
          go_end0
          refine ⟨rfl, dr, M.rep, ?_, M.step⟩
          rw [M.pl, PLD.out]
          have hl : d.pl.files.length = d.files.length := by simp [Rs.pl]
          rw [List.take_of_length_le (by omega), List.drop_eq_nil_of_le (by omega), List.append_nil]
end Go.Proofs.YtajjcfacbnicnaaGreatDoor.Dk

/-
  The program's disk and the document's, side by side: what is alike, and that each call keeps it.
-/
namespace Go.Proofs.YtajjcfacbnicnaaGreatDoor.Dk
open Go.RowKit
set_option maxRecDepth 100000

/-- Places, and the names of the files that they are of, in the order in which they came. -/
abbrev Tape := List (Nat × ByteArray)
def plc (T : Tape) (n : ByteArray) : List Nat := (T.filter fun x => decide (cmp x.2 n = 0)).map Prod.fst
def outT (T : Tape) (n : ByteArray) : Tape := T.filter fun x => !decide (cmp x.2 n = 0)
def toG (T : Tape) (f : F) : G := ⟨f.name, f.bytes, List.replicate f.sure 0 ++ plc T f.name⟩
def flat (ps : List Pc) : List ByteArray := ps.flatMap fun p => List.replicate p.size p.name

structure Rel (s : St) (r : RS) (T : Tape) : Prop where
  files : r.files = s.files.map (toG T)
  names : T.map Prod.snd = flat s.pieces
  rise : (T.map Prod.fst).Pairwise (· < ·)
  pos : ∀ x ∈ T, 0 < x.1 ∧ x.1 ≤ r.count
  most : r.most = s.room
  left : r.left = if s.fused then (s.fuse : Int) else -1
  down : r.down = s.down
  fell : s.down = true → s.fused = true ∧ s.fuse = 0

theorem Rel.nm {s : St} {r : RS} {T : Tape} (h : Rel s r T) : r.names = s.names := by
  unfold RS.names St.names
  rw [h.files, List.map_map]
  rfl
theorem Rel.get {s : St} {r : RS} {T : Tape} (h : Rel s r T) {i : Nat} {f : F} (hf : s.files[i]? = some f) : r.files[i]? = some (toG T f) := by
  rw [h.files, List.getElem?_map, hf]
  rfl
theorem Rel.power {s : St} {r : RS} {T : Tape} (h : Rel s r T) : r.power = s.power := by
  unfold RS.power St.power
  rw [h.down, h.left]
  congr 2
  cases s.fused with
  | false => simp
  | true => by_cases h0 : s.fuse = 0 <;> simp [h0]
theorem Rel.spent {s : St} {r : RS} {T : Tape} (h : Rel s r T) : Rel s.spent r.spent T := by
  have hp := h.power
  refine ⟨h.files, h.names, h.rise, h.pos, h.most, ?_, ?_, ?_⟩
  · show (if 0 < r.left then r.left - 1 else r.left) = if s.fused then ((if s.power && s.fused then s.fuse - 1 else s.fuse : Nat) : Int) else -1
    rw [h.left]
    cases hf : s.fused with
    | false => simp
    | true =>
      simp only [if_true, Bool.and_true]
      cases hq : s.power with
      | true =>
        have : s.fuse ≠ 0 := fun e => by unfold St.power at hq; rw [hf, e] at hq; simp at hq
        simp only [if_true]
        rw [if_pos (by omega)]
        omega
      | false =>
        have : s.fuse = 0 := by
          unfold St.power at hq
          rw [hf] at hq
          cases hd : s.down with
          | true => exact (h.fell hd).2
          | false => rw [hd] at hq; simpa using hq
        simp [this]
  · show (!r.power) = !s.power
    rw [hp]
  · intro hd
    have hq : s.power = false := by have : (!s.power) = true := hd; simpa using this
    have hfs : s.fused = true ∧ s.fuse = 0 := by
      cases hd' : s.down with
      | true => exact h.fell hd'
      | false =>
        unfold St.power at hq
        rw [hd'] at hq
        simpa using hq
    refine ⟨hfs.1, ?_⟩
    show (if s.power && s.fused then s.fuse - 1 else s.fuse) = 0
    rw [hq]
    simpa using hfs.2

theorem plc_out {T : Tape} {n m : ByteArray} : plc (outT T n) m = if cmp m n = 0 then [] else plc T m := by
  unfold plc outT
  rw [List.filter_filter]
  split
  · rename_i h
    have e := cmp_zero.1 h
    subst e
    have : T.filter (fun x => decide (cmp x.2 m = 0) && !decide (cmp x.2 m = 0)) = [] := by
      rw [List.filter_eq_nil_iff]
      intro x _
      simp
    rw [this]
    rfl
  · rename_i h
    congr 1
    apply List.filter_congr
    intro x _
    by_cases e : cmp x.2 m = 0
    · have e' := cmp_zero.1 e
      rw [e']
      simp [h]
    · simp [e]

theorem flat_keep (n : ByteArray) : ∀ ps : List Pc, flat (keepOf n ps) = (flat ps).filter fun x => !decide (cmp x n = 0)
  | [] => rfl
  | p :: r => by
    have ih := flat_keep n r
    unfold keepOf isOf at ih ⊢
    unfold flat at ih ⊢
    simp only [List.flatMap_cons, List.filter_append]
    by_cases h : cmp p.name n = 0
    · have e1 : (p :: r).filter (fun p => !decide (cmp p.name n = 0)) = r.filter fun p => !decide (cmp p.name n = 0) := by simp [h]
      have e2 : (List.replicate p.size p.name).filter (fun x => !decide (cmp x n = 0)) = [] := by
        rw [List.filter_eq_nil_iff]
        intro x hx
        rw [List.eq_of_mem_replicate hx]
        simp [h]
      rw [e1, e2, List.nil_append]
      exact ih
    · have e1 : (p :: r).filter (fun p => !decide (cmp p.name n = 0)) = p :: r.filter fun p => !decide (cmp p.name n = 0) := by simp [h]
      have e2 : (List.replicate p.size p.name).filter (fun x => !decide (cmp x n = 0)) = List.replicate p.size p.name := by
        rw [List.filter_eq_self]
        intro x hx
        rw [List.eq_of_mem_replicate hx]
        simp [h]
      rw [e1, e2, List.flatMap_cons, ih]

theorem out_names {T : Tape} {ps : List Pc} (h : T.map Prod.snd = flat ps) (n : ByteArray) : (outT T n).map Prod.snd = flat (keepOf n ps) := by
  rw [flat_keep, ← h]
  unfold outT
  rw [List.filter_map]
  rfl
theorem out_rise {T : Tape} (h : (T.map Prod.fst).Pairwise (· < ·)) (n : ByteArray) : ((outT T n).map Prod.fst).Pairwise (· < ·) := h.sublist (List.filter_sublist.map _)
theorem out_pos {T : Tape} {k : Nat} (h : ∀ x ∈ T, 0 < x.1 ∧ x.1 ≤ k) (n : ByteArray) : ∀ x ∈ outT T n, 0 < x.1 ∧ x.1 ≤ k := fun x hx => h x ((List.mem_filter.1 hx).1)

theorem toG_out {T : Tape} {f : F} {n : ByteArray} (h : ¬ f.name = n) : toG (outT T n) f = toG T f := by
  unfold toG
  rw [plc_out, if_neg (fun e => h (cmp_zero.1 e))]

theorem getElem_name {l : List F} (hn : (l.map F.name).Nodup) {i j : Nat} {f x : F} (hf : l[i]? = some f) (hx : l[j]? = some x) (hij : i ≠ j) : ¬ x.name = f.name := fun e => by
  have h1 : (l.map F.name)[i]? = some f.name := by rw [List.getElem?_map, hf]; rfl
  have h2 : (l.map F.name)[j]? = some f.name := by rw [List.getElem?_map, hx, ← e]; rfl
  obtain ⟨a, _⟩ := List.getElem?_eq_some_iff.1 h1
  exact hij ((List.getElem?_inj a hn).1 (h1.trans h2.symm))

theorem map_set {l : List F} (hn : (l.map F.name).Nodup) {i : Nat} {f f' : F} (hf : l[i]? = some f) (T : Tape) {y : G} (hy : toG (outT T f.name) f' = y) : (l.map (toG T)).set i y = (l.set i f').map (toG (outT T f.name)) := by
  have hi : i < l.length := (List.getElem?_eq_some_iff.1 hf).1
  apply List.ext_getElem?
  intro j
  rw [List.getElem?_set, List.getElem?_map, List.getElem?_map, List.getElem?_set]
  by_cases e : i = j
  · rw [if_pos e, if_pos e, if_pos (by simpa using hi), if_pos hi, ← hy]
    rfl
  · rw [if_neg e, if_neg e]
    cases hx : l[j]? with
    | none => rfl
    | some x =>
      show some _ = some _
      rw [toG_out (getElem_name hn hf hx e)]

theorem map_erase {l : List F} (hn : (l.map F.name).Nodup) {i : Nat} {f : F} (hf : l[i]? = some f) (T : Tape) : (l.map (toG T)).eraseIdx i = (l.eraseIdx i).map (toG (outT T f.name)) := by
  rw [List.eraseIdx_eq_take_drop_succ, ← List.map_take, ← List.map_drop, ← List.map_append, ← List.eraseIdx_eq_take_drop_succ]
  apply List.map_congr_left
  intro x hx
  rw [toG_out ((mem_erase_ne hn hf).1 hx).2]

theorem Rel.settle {s : St} {r : RS} {T : Tape} (h : Rel s r T) (hn : s.names.Nodup) {i k : Nat} {f : F} (hf : s.files[i]? = some f) : Rel (s.settle i k) (r.setAt i fun g => ⟨g.name, g.bytes.take k, List.replicate k 0⟩) (outT T f.name) := by
  unfold St.settle RS.setAt
  rw [hf, h.get hf]
  refine ⟨?_, out_names h.names f.name, out_rise h.rise _, out_pos h.pos _, h.most, h.left, h.down, h.fell⟩
  simp only
  rw [h.files]
  refine map_set hn hf T ?_
  unfold toG
  rw [plc_out, if_pos (cmp_self _), List.append_nil]

theorem Rel.drop {s : St} {r : RS} {T : Tape} (h : Rel s r T) (hn : s.names.Nodup) {i : Nat} {f : F} (hf : s.files[i]? = some f) : Rel (s.drop i) (r.dropAt i) (outT T f.name) := by
  unfold St.drop RS.dropAt
  rw [hf]
  refine ⟨?_, out_names h.names f.name, out_rise h.rise _, out_pos h.pos _, h.most, h.left, h.down, h.fell⟩
  simp only
  rw [h.files]
  exact map_erase hn hf T

/-- So many places as bytes that wait. -/
theorem flat_count (n : ByteArray) : ∀ ps : List Pc, (flat ps).countP (fun x => decide (cmp x n = 0)) = wait n ps
  | [] => rfl
  | p :: r => by
    unfold flat
    rw [List.flatMap_cons, List.countP_append, wait_cons]
    have ih := flat_count n r
    unfold flat at ih
    rw [ih]
    congr 1
    rw [List.countP_replicate]
    by_cases h : cmp p.name n = 0 <;> simp [h]
theorem plc_length (T : Tape) (n : ByteArray) : (plc T n).length = (T.map Prod.snd).countP fun x => decide (cmp x n = 0) := by
  unfold plc
  rw [List.length_map, List.countP_map, List.countP_eq_length_filter]
  rfl
theorem Rel.plc_len {s : St} {r : RS} {T : Tape} (h : Rel s r T) (n : ByteArray) : (plc T n).length = wait n s.pieces := by rw [plc_length, h.names, flat_count]

theorem plc_pos {T : Tape} {k : Nat} (h : ∀ x ∈ T, 0 < x.1 ∧ x.1 ≤ k) {n : ByteArray} {p : Nat} (hp : p ∈ plc T n) : 0 < p ∧ p ≤ k := by
  obtain ⟨x, hx, rfl⟩ := List.mem_map.1 hp
  exact h x ((List.mem_filter.1 hx).1)

theorem Rel.put {s : St} {r : RS} {T : Tape} (h : Rel s r T) {f : F} {g : G} (hg : toG T f = g) : Rel (s.putAt (place s.names f.name) f) (r.putF g) T := by
  refine ⟨?_, h.names, h.rise, h.pos, h.most, h.left, h.down, h.fell⟩
  show r.files.take (place r.names g.name) ++ g :: r.files.drop (place r.names g.name) = (s.files.take (place s.names f.name) ++ f :: s.files.drop (place s.names f.name)).map (toG T)
  have e : g.name = f.name := by rw [← hg]; rfl
  rw [h.nm, e, h.files, List.map_append, List.map_cons, List.map_take, List.map_drop, hg]

theorem range_fst (n : ByteArray) (a k : Nat) : ((List.range' a k).map fun p => ((p, n) : Nat × ByteArray)).map Prod.fst = List.range' a k := by
  rw [List.map_map]
  exact List.map_id' _
theorem range_snd (n : ByteArray) (a k : Nat) : ((List.range' a k).map fun p => ((p, n) : Nat × ByteArray)).map Prod.snd = List.replicate k n := by
  rw [List.map_map]
  show (List.range' a k).map (fun _ => n) = _
  rw [List.map_const']
  simp

theorem plc_more (T : Tape) (n m : ByteArray) (a k : Nat) : plc (T ++ (List.range' a k).map fun p => (p, n)) m = if cmp m n = 0 then plc T m ++ List.range' a k else plc T m := by
  unfold plc
  rw [List.filter_append, List.map_append]
  split
  · rename_i h
    have e := cmp_zero.1 h
    subst e
    congr 1
    have : ((List.range' a k).map fun p => ((p, m) : Nat × ByteArray)).filter (fun x => decide (cmp x.2 m = 0)) = (List.range' a k).map fun p => ((p, m) : Nat × ByteArray) := by
      rw [List.filter_eq_self]
      intro x hx
      obtain ⟨p, _, rfl⟩ := List.mem_map.1 hx
      simp [cmp_self]
    rw [this, range_fst]
  · rename_i h
    have : ((List.range' a k).map fun p => ((p, n) : Nat × ByteArray)).filter (fun x => decide (cmp x.2 m = 0)) = [] := by
      rw [List.filter_eq_nil_iff]
      intro x hx
      obtain ⟨p, _, rfl⟩ := List.mem_map.1 hx
      have : ¬ cmp n m = 0 := fun e => h (cmp_zero.2 (cmp_zero.1 e).symm)
      simp [this]
    rw [this]
    simp

theorem Rel.more {s : St} {r : RS} {T : Tape} (h : Rel s r T) (hn : s.names.Nodup) {i : Nat} {f : F} {n x : ByteArray} (hf : s.files[i]? = some f) (hfn : f.name = n) : Rel (s.more i n x) (r.more i x.data.toList) (T ++ (List.range' (r.count + 1) x.size).map fun p => (p, n)) := by
  have hi : i < s.files.length := (List.getElem?_eq_some_iff.1 hf).1
  have hxs : x.data.toList.length = x.size := rfl
  unfold St.more RS.more
  rw [hf, h.get hf]
  refine ⟨?_, ?_, ?_, ?_, h.most, h.left, h.down, h.fell⟩
  · simp only
    rw [h.files]
    apply List.ext_getElem?
    intro j
    rw [List.getElem?_set, List.getElem?_map, List.getElem?_map, List.getElem?_set]
    by_cases e : i = j
    · rw [if_pos e, if_pos e, if_pos (by simpa using hi), if_pos hi]
      show some _ = some _
      congr 1
      unfold toG
      simp only
      rw [plc_more, hfn, if_pos (cmp_self _), hxs, List.append_assoc]
    · rw [if_neg e, if_neg e]
      cases hx : s.files[j]? with
      | none => rfl
      | some y =>
        show some _ = some _
        congr 1
        unfold toG
        rw [plc_more, if_neg (fun e' => getElem_name hn hf hx e (by rw [cmp_zero.1 e', hfn]))]
  · rw [List.map_append, h.names, range_snd]
    show _ = flat (s.pieces ++ [⟨n, x.size⟩])
    unfold flat
    rw [List.flatMap_append]
    simp
  · rw [List.map_append, range_fst, List.pairwise_append]
    refine ⟨h.rise, List.pairwise_lt_range', fun a ha c hc => ?_⟩
    obtain ⟨y, hy, rfl⟩ := List.mem_map.1 ha
    have := (h.pos y hy).2
    have := (List.mem_range'_1.1 hc).1
    omega
  · intro y hy
    show 0 < y.1 ∧ y.1 ≤ r.count + x.data.toList.length
    rcases List.mem_append.1 hy with hy | hy
    · have := h.pos y hy
      omega
    · obtain ⟨p, hp, rfl⟩ := List.mem_map.1 hy
      have := List.mem_range'_1.1 hp
      rw [hxs]
      show 0 < p ∧ p ≤ _
      omega
end Go.Proofs.YtajjcfacbnicnaaGreatDoor.Dk
