/-
  YtajjcfacbnicnaaGreatDoor: the texts R1, R2, one behind the other.
-/
import Derived.Test.YtajjcfacbnicnaaGreatDoorU36
import Derived.WalkKit
import Derived.WalkSpells
import Derived.WalkLawsBesides
import Derived.Deep.LoopGhost
import Derived.Laws.Externs
import Derived.Below
import Derived.BigQuiet
import Derived.Deep.RegionWith
import Derived.OwnWalk
import Derived.Maps.AppendAt
import Derived.WalkSmall
/-
  SeglogRot: what came in, what the log has.
-/
namespace Go.Proofs.YtajjcfacbnicnaaGreatDoor
open Go.RowKit
set_option maxRecDepth 100000
/-- A box that a value came in by, and all that was there. -/
def bxW (W : World) (file at_ : Int) (y : UInt8) : World := W.alloc (.cells #[.int .i64 file, .int .i64 at_, .int .u8 (y.toNat : Int)] 55)
theorem bxW_size (W : World) (file at_ : Int) (y : UInt8) : (bxW W file at_ y).heap.size = W.heap.size + 1 := by simp [bxW]
theorem bx_cells {W u : World} {file at_ : Int} {y : UInt8} (h : Below (W.heap.size + 1) (bxW W file at_ y) u) : u.cell? ⟨W.heap.size, 0, none⟩ = some (.int .i64 file) ∧ u.cell? ⟨W.heap.size, 1, none⟩ = some (.int .i64 at_) ∧ u.cell? ⟨W.heap.size, 2, none⟩ = some (.int .u8 (y.toNat : Int)) := by
  have hr : (bxW W file at_ y).heap[W.heap.size]? = some (.cells #[.int .i64 file, .int .i64 at_, .int .u8 (y.toNat : Int)] 55 (0, 0)) := heap_alloc_new W _
  have hu : u.heap[W.heap.size]? = some (.cells #[.int .i64 file, .int .i64 at_, .int .u8 (y.toNat : Int)] 55 (0, 0)) := (h.block _ (by omega)).trans hr
  refine ⟨?_, ?_, ?_⟩
  · rw [cell_of_row u W.heap.size 0 _ _ _ hu]; rfl
  · rw [cell_of_row u W.heap.size 1 _ _ _ hu]; rfl
  · rw [cell_of_row u W.heap.size 2 _ _ _ hu]; rfl
theorem bx_below (W : World) (file at_ : Int) (y : UInt8) : Below W.heap.size W (bxW W file at_ y) := (Below.refl _ _).alloc (Nat.le_refl _) _
theorem bx_vars {W : World} (h : Vars W) (file at_ : Int) (y : UInt8) : Vars (bxW W file at_ y) := h.below (bx_below W file at_ y)
/-- awake, behind the box. -/
theorem bx_awake {W : World} (hV : Vars W) (file at_ : Int) (y : UInt8) : Calls Tryz.prog 7 #[] (W.alloc (.cells #[.int .i64 file, .int .i64 at_, .int .u8 (y.toNat : Int)] 55)) fun e w' => e = .returned (.bool true) ∧ Below (W.heap.size + 1) (bxW W file at_ y) w' := by
  have h := awake_any (bxW W file at_ y) (bx_vars hV file at_ y)
  rw [bxW_size] at h
  exact h
theorem rot_long (W : World) (hV : Vars W) (a : Option Addr) (n c : Nat) (lim file at_ : Int) (y : UInt8) (hn : 12 < n) :
    Calls Tryz.prog 5 #[.slice a n c, .int .i64 lim, .agg #[.int .i64 file, .int .i64 at_, .int .u8 (y.toNat : Int)]] W fun e w' => e = .returned (.bool true) ∧ Below W.heap.size W w' := by
  have k7 := bx_awake hV file at_ y
  have d1 : decide (12 < (n : Int)) = true := by simp; omega
  have bb := bx_below W file at_ y
  go_enter Tryz.func5, Tryz.ntmps5
  go_wp2_with (go_at_call 7; refine k7.mono ?_; rintro e w1 ⟨rfl, b1⟩)
  go_ret
  exact ⟨rfl, bb.trans (b1.mono (by omega))⟩
theorem rot_zero (W : World) (hV : Vars W) (a : Option Addr) (n c : Nat) (lim file at_ : Int) (y : UInt8) (hn : ¬ 12 < n) (hy : y = 0) :
    Calls Tryz.prog 5 #[.slice a n c, .int .i64 lim, .agg #[.int .i64 file, .int .i64 at_, .int .u8 (y.toNat : Int)]] W fun e w' => e = .returned (.bool true) ∧ Below W.heap.size W w' := by
  have k7 := bx_awake hV file at_ y
  have d1 : decide (12 < (n : Int)) = false := by simp; omega
  have bb := bx_below W file at_ y
  have CB := asd (fun (u : World) (h : Below (W.heap.size + 1) (bxW W file at_ y) u) => bx_cells h)
  have hy1 : ((y.toNat : Int) == 0) = true := by rw [beq_iff_eq, hy]; rfl
  have hy2 : (y.toNat == 0) = true := by rw [beq_iff_eq, hy]; rfl
  clear hy
  go_enter Tryz.func5, Tryz.ntmps5
  go_wp2_with (go_at_call 7; refine k7.mono ?_; rintro e w1 ⟨rfl, b1⟩; obtain ⟨c0, c1, c2⟩ := CB.out w1 b1)
  go_ret
  exact ⟨rfl, bb.trans (b1.mono (by omega))⟩
/-- The log at work, and what came in. -/
structure LgS (W : World) (file at_ : Int) (y : UInt8) (B l b : Nat) (m : Int) (d : Dk.Ds) (u : World) : Prop where
  sys : Sys B l b 1 m d u
  bel : Below (W.heap.size + 1) (bxW W file at_ y) u
  le : W.heap.size + 1 ≤ B
theorem LgS.next {W : World} {file at_ : Int} {y : UInt8} {B l b : Nat} {m : Int} {d d' : Dk.Ds} {u u' : World} (h : LgS W file at_ y B l b m d u) (s : Sys B l b 1 m d' u') (st : Dk.Step (d.foot b) (d'.foot b) u u') : LgS W file at_ y B l b m d' u' :=
  ⟨s, h.bel.trans (st.below (fun k hk => by have := (h.sys.rep.lt k hk).1; have := h.le; omega) (by have := h.sys.hs; have := h.le; omega)), h.le⟩
theorem rot_new : (lOpen (Dk.opRoom Dk.emptySt 9000) 1).1.toOption = some [] := by decide +kernel
theorem rot_st : (lOpen (Dk.opRoom Dk.emptySt 9000) 1).2 = Dk.opRoom Dk.emptySt 9000 := by
  have h1 : (nmL 1).size ≠ 0 := by decide +kernel
  have h2 : nums (Dk.opRoom Dk.emptySt 9000).names 1 = [] := by decide +kernel
  unfold lOpen
  rw [if_neg h1, h2]
  rfl
theorem inv_new (n : Int) : Inv (Dk.opRoom Dk.emptySt n) [] := by
  refine ⟨ok_new n, fun t => ⟨fun h => ?_, ?_⟩, fun i h => ?_, fun g h => ?_, rfl⟩
  · cases h
  · rintro ⟨i, h, _⟩
    simp at h
  · simp at h
  · cases h
/-- Behind so many records. -/
structure Rec (k : Nat) (s : Dk.St) (G : List Seg) : Prop where
  inv : Inv s G
  down : s.down = false
  fused : s.fused = false
  room : s.room = 9000
  tot : s.total ≤ 210 * k
  few : G.length ≤ k
theorem Rec.next {k : Nat} {s : Dk.St} {G : List Seg} (h : Rec k s G) (hk : k < 12) {x : ByteArray} (hx : x.size ≤ 200) (m : Int) : (lAppend s 1 m x 0).1 = 0 ∧ ∃ G', Rec (k + 1) (lAppend s 1 m x 0).2 G' := by
  have h1 := h.few
  have h2 := h.tot
  have h3 := h.room
  obtain ⟨G', a1, a2, _, a4, a5, a6, a7, a8⟩ := app_step h.inv h.down h.fused (x := x) (by omega) m 0 (by omega) (by
    have : wi 0 = 0 := by decide
    rw [this]
    omega)
  exact ⟨a1, G', a2, a6, a7, by rw [a5, h3], by rw [a4]; omega, by omega⟩
end Go.Proofs.YtajjcfacbnicnaaGreatDoor

/-
  A byte that is turned: what Open says of it.
-/
namespace Go.Proofs.YtajjcfacbnicnaaGreatDoor
open Go.RowKit
set_option maxRecDepth 100000
theorem xor_ne {x y : UInt8} (h : y ≠ 0) : x ^^^ y ≠ x := fun e => h (by
  have h1 : x ^^^ (x ^^^ y) = x ^^^ x := by rw [e]
  rw [← UInt8.xor_assoc, UInt8.xor_self, UInt8.zero_xor] at h1
  exact h1)
theorem names_rot (s : Dk.St) (file at_ by_ : Int) : (Dk.opRot s file at_ by_).2.names = s.names := by
  unfold Dk.opRot
  split
  · split
    · rename_i f hf
      split
      · show ((s.files.set _ _).map Dk.F.name) = _
        exact Dk.names_set hf rfl
      · rfl
    · rfl
  · rfl
/-- What Open says of a log of which a byte was turned. -/
theorem rot_told {s : Dk.St} {G : List Seg} (h : Inv s G) (hs : ∀ f ∈ s.files, f.sure = f.bytes.length) (hd : s.down = false) {file at_ : Int} {y : UInt8} (hy : y ≠ 0) (hr : (Dk.opRot s file at_ (y.toNat : Int)).1 = true) :
    lOpen (Dk.opFuse (Dk.opRot s file at_ (y.toNat : Int)).2 0) 1 = (.error 4, Dk.opFuse (Dk.opRot s file at_ (y.toNat : Int)).2 0) ∧ Dk.Ok (Dk.opFuse (Dk.opRot s file at_ (y.toNat : Int)).2 0) ∧ (Dk.opFuse (Dk.opRot s file at_ (y.toNat : Int)).2 0).down = false := by
  have okr := h.ok.opRot file at_ (y.toNat : Int)
  have okf : Dk.Ok (Dk.opFuse (Dk.opRot s file at_ (y.toNat : Int)).2 0) := okr.opFuse (by decide)
  have hn0 := names_rot s file at_ (y.toNat : Int)
  have hdr : (Dk.opRot s file at_ (y.toNat : Int)).2.down = false := by
    unfold Dk.opRot
    split
    · split
      · split <;> exact hd
      · exact hd
    · exact hd
  have hff : (Dk.opFuse (Dk.opRot s file at_ (y.toNat : Int)).2 0).files = (Dk.opRot s file at_ (y.toNat : Int)).2.files := by
    unfold Dk.opFuse
    split <;> rfl
  have hfn : (Dk.opFuse (Dk.opRot s file at_ (y.toNat : Int)).2 0).names = s.names := by
    unfold Dk.St.names
    rw [hff]
    exact hn0
  have hfd : (Dk.opFuse (Dk.opRot s file at_ (y.toNat : Int)).2 0).down = false := by
    unfold Dk.opFuse
    rw [hdr, if_neg (by decide)]
  refine ⟨?_, okf, hfd⟩
  -- the file
  have key : ∃ f, s.files[file.toNat]? = some f ∧ 0 ≤ at_ ∧ at_ < f.sure ∧ (Dk.opRot s file at_ (y.toNat : Int)).2.files = s.files.set file.toNat ⟨f.name, f.bytes.set at_.toNat (f.bytes[at_.toNat]! ^^^ y), f.sure⟩ := by
    have e1 : UInt8.ofNat (((y.toNat : Int) % 256).toNat) = y := by
      have := y.toNat_lt
      rw [show (((y.toNat : Int) % 256).toNat) = y.toNat by omega]
      exact UInt8.ofNat_toNat
    unfold Dk.opRot at hr ⊢
    split at hr
    · rename_i h0
      rw [if_pos h0]
      split at hr
      · rename_i f hf
        split at hr
        · rename_i h1
          refine ⟨f, hf, h0.2, h1, ?_⟩
          simp only [if_pos h1, e1]
        · cases hr
      · cases hr
    · cases hr
  obtain ⟨f, hf, ha0, ha, hfs⟩ := key
  obtain ⟨hlt, hget⟩ := List.getElem?_eq_some_iff.1 hf
  have hfm : f ∈ s.files := by rw [← hget]; exact List.getElem_mem hlt
  obtain ⟨i, hi, hin⟩ := (h.names f.name).1 (mem_names hfm)
  obtain ⟨f2, k1, k2, k3, _⟩ := h.file i hi
  have e2 : f = f2 := file_uniq h.ok.rising.nodup hfm k1 (by rw [hin, k2])
  subst e2
  have hsz := hs f hfm
  have hal : at_.toNat < f.bytes.length := by omega
  have hb : (Fm.Fr.mks G[i])[at_.toNat]? ≠ some (f.bytes[at_.toNat]! ^^^ y) := by
    rw [← k3, List.getElem!_eq_getElem?_getD, List.getElem?_eq_getElem hal]
    intro e
    injection e with e
    exact xor_ne hy e.symm
  have h4 := rot_seg (l := G[i]) (h.short _ (List.getElem_mem hi)) (a := at_.toNat) (by rw [← k3]; exact hal) hb
  rw [← k3] at h4
  refine open_rot okf (fun t => by rw [hfn]; exact h.names t) h.few h.short hi (fun j hj hne => ?_) ⟨⟨f.name, f.bytes.set at_.toNat (f.bytes[at_.toNat]! ^^^ y), f.sure⟩, ?_, hin, rfl⟩ h4
  · obtain ⟨f', c1, c2, c3, _⟩ := h.file j hj
    refine ⟨f', ?_, c2, c3⟩
    rw [hff, hfs]
    obtain ⟨t, ht, rfl⟩ := List.getElem_of_mem c1
    have hti : file.toNat ≠ t := fun e => by
      subst e
      rw [hget] at c2
      have := nmL_inj (hin.symm.trans c2) (by omega) (by have := h.few; omega)
      omega
    exact List.mem_iff_getElem.2 ⟨t, by simpa using ht, by simp [hti]⟩
  · rw [hff, hfs]
    exact List.mem_iff_getElem.2 ⟨file.toNat, by simpa using hlt, by simp⟩
/-- Where no byte is turned. -/
theorem rot_not {s : Dk.St} {file at_ by_ : Int} (hr : (Dk.opRot s file at_ by_).1 = false) : (Dk.opRot s file at_ by_).2 = s ∧ (file < 0 ∨ at_ < 0 ∨ (s.files.length : Int) ≤ file ∨ ∃ f, s.files[file.toNat]? = some f ∧ 0 ≤ file ∧ (f.sure : Int) ≤ at_) := by
  unfold Dk.opRot at hr ⊢
  split
  · rename_i h0
    rw [if_pos h0] at hr
    split
    · rename_i f hf
      rw [hf] at hr
      dsimp only at hr
      split
      · rename_i h1
        rw [if_pos h1] at hr
        cases hr
      · rename_i h1
        exact ⟨rfl, .inr (.inr (.inr ⟨f, hf, h0.1, by omega⟩))⟩
    · rename_i hf
      refine ⟨rfl, .inr (.inr (.inl ?_))⟩
      have := List.getElem?_eq_none_iff.1 hf
      omega
  · rename_i h0
    refine ⟨rfl, ?_⟩
    by_cases h1 : 0 ≤ file
    · exact .inr (.inl (by omega))
    · exact .inl (by omega)
end Go.Proofs.YtajjcfacbnicnaaGreatDoor
