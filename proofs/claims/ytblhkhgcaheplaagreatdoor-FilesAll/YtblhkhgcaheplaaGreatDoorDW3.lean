/-
  What may be a name; an operation begins; a file is opened.
-/
import Derived.Test.YtblhkhgcaheplaaGreatDoorDW2
namespace Go.Proofs.YtblhkhgcaheplaaGreatDoor.Dk
open Go.RowKit
set_option maxRecDepth 100000

def nb (x : Nat) : Bool := (decide (97 ≤ x) && decide (x ≤ 122)) || (decide (48 ≤ x) && decide (x ≤ 57)) || decide (x = 46)

theorem nameByte_any (x : Nat) (w : World) :
    Calls Tryz.prog 30 #[.int .u8 (x : Int)] w fun e w' => e = .returned (.bool (nb x)) ∧ w' = w := by
  unfold nb
  by_cases h1 : 97 ≤ x <;> by_cases h2 : x ≤ 122 <;> by_cases h3 : 48 ≤ x <;> by_cases h4 : x ≤ 57 <;> by_cases h5 : x = 46 <;> first
    | (exfalso; omega)
    | (have k1 := h1
       have k2 := h2
       have k3 := h3
       have k4 := h4
       have k5 := h5
       go_enter Tryz.func30, Tryz.ntmps30
       go_wp2
       go_ret
       refine ⟨congrArg (fun t => Ending.returned (Value.bool t)) ?_, rfl⟩
       first | rfl | (rw [Bool.eq_iff_iff]; simp; omega) | (rw [Bool.eq_iff_iff]; simp))

/-- May it be a name? -/
def mayBe (n : ByteArray) : Bool := decide (1 ≤ n.size) && decide (n.size ≤ 12) && n.data.toList.all fun b => nb b.toNat

theorem ba_get (n : ByteArray) (i : Nat) (h : i < n.size) : n.data.toList[i]? = some n[i] := by
  show n.data.toList[i]? = some n.data[i]
  rw [Array.getElem?_toList]
  exact Array.getElem?_eq_getElem h

theorem all_of_get {n : ByteArray} (p : UInt8 → Bool) (h : ∀ i, (hi : i < n.size) → p n[i] = true) : n.data.toList.all p = true := by
  rw [List.all_eq_true]
  intro x hx
  obtain ⟨i, hi, rfl⟩ := List.getElem_of_mem hx
  exact h i (by simpa using hi)
theorem all_not_get {n : ByteArray} (p : UInt8 → Bool) (i : Nat) (hi : i < n.size) (h : p n[i] = false) : n.data.toList.all p = false := by
  rw [List.all_eq_false]
  exact ⟨n[i], List.mem_of_getElem? (ba_get n i hi), by simp [h]⟩

theorem mayBe_any (n : ByteArray) (w : World) :
    Calls Tryz.prog 17 #[.string n] w fun e w' => e = .returned (.bool (mayBe n)) ∧ w' = w := by
  unfold mayBe
  by_cases h1 : n.size < 1
  · go_enter Tryz.func17, Tryz.ntmps17
    go_wp2
    go_ret
    exact ⟨by simp; omega, rfl⟩
  · by_cases h2 : 12 < n.size
    · have d1 : decide ((n.size : Int) < 1) = false := by simp; omega
      go_enter Tryz.func17, Tryz.ntmps17
      go_wp2
      go_ret
      exact ⟨by simp; omega, rfl⟩
    · have d1 : decide ((n.size : Int) < 1) = false := by simp; omega
      have d2 : decide (12 < (n.size : Int)) = false := by simp; omega
      have e1 : (decide (1 ≤ n.size) && decide (n.size ≤ 12)) = true := by simp; omega
      rw [e1, Bool.true_and]
      clear e1
      go_enter Tryz.func17, Tryz.ntmps17
      go_wp2
      go_loopg [14] n.size (fun gh s wr => ∃ k : Nat, n.size - k ≤ gh ∧ k ≤ n.size ∧ s = .int .i64 (k : Int) ∧ wr = w ∧ Aside (∀ i, i < k → (hi : i < n.size) → nb n[i].toNat = true))
      case atStart => exact ⟨0, by omega, by omega, rfl, rfl, (fun i hi _ => absurd hi (Nat.not_lt_zero _) : ∀ i, i < 0 → (hi : i < n.size) → nb n[i].toNat = true)⟩
      case round =>
        obtain ⟨k, hgh, hk, rfl, rfl, I⟩ := hrel
        by_cases hlt : k < n.size
        · have d3 : decide (k < n.size) = true := by simpa using hlt
          have hk := nameByte_any n[k].toNat wr
          cases hq : nb n[k].toNat with
          | true =>
            rw [hq] at hk
            go_wp2_with (go_at_call 30; refine hk.mono ?_; rintro e w' ⟨rfl, rfl⟩)
            go_roundg (n.size - (k + 1))
            case measure => omega
            case rel =>
              have I2 : Aside (∀ i, i < k + 1 → (hi : i < n.size) → nb n[i].toNat = true) := fun i hi hs => by
                by_cases h : i = k
                · subst h; exact hq
                · exact I.out i (by omega) hs
              exact ⟨k + 1, Nat.le_refl _, by omega, by go_num, rfl, I2⟩
          | false =>
            rw [hq] at hk
            have F : Aside (n.data.toList.all (fun b => nb b.toNat) = false) := all_not_get (fun b => nb b.toNat) k hlt hq
            go_wp2_with (go_at_call 30; refine hk.mono ?_; rintro e w' ⟨rfl, rfl⟩)
            go_ret
            exact ⟨by rw [F.out]; rfl, rfl⟩
        · have d3 : decide (k < n.size) = false := by simpa using hlt
          have F : Aside (n.data.toList.all (fun b => nb b.toNat) = true) := all_of_get (fun b => nb b.toNat) fun i hi => I.out i (by omega) hi
          go_wp2
          go_ret
          exact ⟨by rw [F.out]; rfl, rfl⟩

theorem Rep.scal {w w' : World} {B b : Nat} {d d' : Ds} (h : Rep w B b d) (hf : d'.files = d.files) (hp : d'.pieces = d.pieces) (hvf : d'.vf = d.vf) (hvp : d'.vp = d.vp)
    (hblk : w'.heap[b]? = some (.cells d'.cells 44 (0, 0))) (ho : ∀ k, k ≠ b → w'.heap[k]? = w.heap[k]?) : Rep w' B b d' := by
  have hfo : d'.foot b = d.foot b := by unfold Ds.foot; rw [hf, hvf, hvp]
  have hnd := h.nodup
  have hne : ∀ k, k ∈ ob d.vf ++ (ob d.vp ++ d.files.flatMap fun f => ob f.v) → k ≠ b := fun k hk e => (List.nodup_cons.1 hnd).1 (e ▸ hk)
  refine ⟨h.ge, hblk, ?_, ?_, ?_, by rw [hfo]; exact hnd⟩
  · rw [hf, hvf]
    exact own_frame h.tab fun k hk => ho k (hne k (List.mem_append_left _ (mem_ob.2 hk)))
  · rw [hp, hvp]
    exact own_frame h.pcs fun k hk => ho k (hne k (List.mem_append_right _ (List.mem_append_left _ (mem_ob.2 hk))))
  · rw [hf]
    exact fun f hm => own_frame (h.rows f hm) fun k hk => ho k (hne k (List.mem_append_right _ (List.mem_append_right _ (List.mem_flatMap.2 ⟨f, hm, mem_ob.2 hk⟩))))

/-- Is there power for one more operation? -/
def Ds.power (d : Ds) : Bool := !(d.down || (d.fused && d.fuse == 0))
/-- What is left behind it. -/
def Ds.spent (d : Ds) : Ds := { d with down := !d.power, fuse := if d.power && d.fused then d.fuse - 1 else d.fuse }

theorem spent_foot (b : Nat) (d : Ds) : d.spent.foot b = d.foot b := rfl

theorem set_same {w : World} {b j : Nat} {cs : Array Value} {t : TypeId} {v : Value} {cs' : Array Value} (h : w.heap[b]? = some (.cells cs t (0, 0))) (e : cs.setIfInBounds j v = cs') : (w.setCell ⟨b, j, none⟩ v).heap[b]? = some (.cells cs' t (0, 0)) := by
  rw [heap_setCell_same w b j cs t v h, e]

set_option maxHeartbeats 800000 in
theorem begin_any {w : World} {B b : Nat} {d : Ds} (h : Rep w B b d) (hfu : d.fuse ≤ 9223372036854775807) :
    Calls Tryz.prog 16 #[.pointer (some ⟨b, 0, none⟩)] w fun e w' => e = .returned (.int .i64 (if d.power then 0 else 12)) ∧ Rep w' B b d.spent ∧ Step (d.foot b) (d.foot b) w w' := by
  have c3 := h.c3
  have c4 := h.c4
  have c5 := h.c5
  have f4 := h.fz 4
  have f5 := h.fz 5
  have A : Aside (Rep w B b d) := h
  clear h
  obtain ⟨files, pieces, vf, vp, room, fused, fuse, down⟩ := d
  simp only at c3 c4 c5 hfu
  by_cases hz : fuse = 0
  · subst hz
    cases fused <;> cases down <;> (go_enter Tryz.func16, Tryz.ntmps16; go_wp2; go_ret)
    · exact ⟨rfl, A.out, Step.refl _ _⟩
    · exact ⟨rfl, A.out, Step.refl _ _⟩
    · exact ⟨rfl, A.out.scal rfl rfl rfl rfl (set_same A.out.blk rfl) (fun k hk => Below.heap_setCell _ _ _ _ hk), Step.setb _ foot_b _ _⟩
    · exact ⟨rfl, A.out.scal rfl rfl rfl rfl (set_same A.out.blk rfl) (fun k hk => Below.heap_setCell _ _ _ _ hk), Step.setb _ foot_b _ _⟩
  · have d1 : ((fuse : Int) == 0) = false := by simp; omega
    have d2 : (fuse == 0) = false := by simpa using hz
    cases fused with
    | false =>
      cases down <;> (go_enter Tryz.func16, Tryz.ntmps16; go_wp2; go_ret)
      · refine ⟨rfl, ?_, Step.refl _ _⟩
        simpa [Ds.spent, Ds.power] using A.out
      · refine ⟨rfl, ?_, Step.refl _ _⟩
        simpa [Ds.spent, Ds.power] using A.out
    | true =>
      cases down with
      | true =>
        go_enter Tryz.func16, Tryz.ntmps16
        go_wp2
        go_ret
        refine ⟨by simp, ?_, Step.refl _ _⟩
        simpa [Ds.spent, Ds.power] using A.out
      | false =>
        have hp : Ds.power ⟨files, pieces, vf, vp, room, true, fuse, false⟩ = true := by simp [Ds.power, d2]
        rw [hp, if_pos rfl]
        clear hp
        go_enter Tryz.func16, Tryz.ntmps16
        go_wp2
        go_ret
        refine ⟨rfl, A.out.scal rfl rfl rfl rfl (set_same A.out.blk ?_) (fun k hk => Below.heap_setCell _ _ _ _ hk), Step.setb _ foot_b _ _⟩
        have e : ((fuse - 1 : Nat) : Int) = (fuse : Int) - 1 := by omega
        simp [Ds.spent, Ds.power, Ds.cells, d2, e]

theorem open_any {w : World} {B b : Nat} {d : Ds} (h : Rep w B b d) (hfu : d.fuse ≤ 9223372036854775807) (hr : Rising d.names) (hl : d.files.length ≤ 1000) (n : ByteArray) :
    Calls Tryz.prog 39 #[.pointer (some ⟨b, 0, none⟩), .string n] w fun e w' => e = .returned (.tuple #[.int .i64 (if d.power && has d.names n then place d.names n else 0 : Nat), .int .i64 (if d.power then if has d.names n then 0 else 6 else 12)]) ∧ Rep w' B b d.spent ∧ Step (d.foot b) (d.foot b) w w' := by
  have kb := begin_any h hfu
  clear h
  have hr' : Aside (Rising d.spent.names) := hr
  cases hp : d.power with
  | false =>
    rw [hp] at kb
    go_enter Tryz.func39, Tryz.ntmps39
    go_wp2_with (go_at_call 16; refine kb.mono ?_; rintro e w1 ⟨rfl, h1, s1⟩)
    go_ret2
    exact ⟨rfl, h1, s1⟩
  | true =>
    rw [hp] at kb
    have kf : Aside (∀ u : World, Rep u B b d.spent → _) := fun (u : World) (hu : Rep u B b d.spent) => find_any hu hr'.out hl n
    have en : d.spent.names = d.names := rfl
    cases hh : has d.names n with
    | false =>
      rw [en, hh] at kf
      go_enter Tryz.func39, Tryz.ntmps39
      go_wp2_with (first
        | (go_at_call 16; refine kb.mono ?_; rintro e w1 ⟨rfl, h1, s1⟩)
        | (go_at_call 18; refine (kf.out _ h1).mono ?_; rintro e w2 ⟨rfl, hb2⟩))
      go_ret2
      exact ⟨rfl, h1.below hb2, s1.trans (Step.ofBelow hb2)⟩
    | true =>
      rw [en, hh] at kf
      go_enter Tryz.func39, Tryz.ntmps39
      go_wp2_with (first
        | (go_at_call 16; refine kb.mono ?_; rintro e w1 ⟨rfl, h1, s1⟩)
        | (go_at_call 18; refine (kf.out _ h1).mono ?_; rintro e w2 ⟨rfl, hb2⟩))
      go_ret2
      exact ⟨rfl, h1.below hb2, s1.trans (Step.ofBelow hb2)⟩
end Go.Proofs.YtblhkhgcaheplaaGreatDoor.Dk
