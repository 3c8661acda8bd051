/-
  YtajjcfacbnicnaaGreatDoor: the texts T7, one behind the other.
-/
import Derived.Test.YtajjcfacbnicnaaGreatDoorU11
import Derived.Test.YtajjcfacbnicnaaGreatDoorU12
import Derived.WalkKit
import Derived.WalkSpells
import Derived.WalkLawsBesides
import Derived.Deep.LoopGhost
import Derived.Laws.Externs
import Derived.Below
import Derived.BigQuiet
import Derived.Deep.RegionWith
import Derived.OwnWalk
import Derived.Maps.AppendAt
import Derived.WalkSmall
/-
  Names behind each call; why a segment may not have more.
-/
namespace Go.Proofs.YtajjcfacbnicnaaGreatDoor
open Go.RowKit
set_option maxRecDepth 100000
theorem ddl : ∀ (k u : Nat), u < 10 ^ (k + 1) → (Lib.decDigits u).length ≤ k + 1
  | 0, u, h => by rw [Lib.decDigits_one (by simpa using h)]; simp
  | k + 1, u, h => by
    by_cases hu : u < 10
    · rw [Lib.decDigits_one hu]; simp
    · rw [Nat.pow_succ] at h
      have := ddl k (u / 10) (by omega)
      rw [Lib.decDigits, dif_neg hu, List.length_append]
      simp
      omega
theorem nmL_size (n : Int) : (nmL n).size ≤ 9 := by
  show (Fi.nm LG.data.toList n).toArray.size ≤ 9
  rw [List.size_toArray]
  by_cases h : Fi.wd LG.data.toList = true ∧ 1 ≤ n ∧ n ≤ 99999
  · rw [Fi.nm_in h.1 h.2.1 h.2.2, List.length_append, List.length_cons]
    have := ddl 4 n.toNat (by omega)
    have e : LG.data.toList.length = 3 := rfl
    omega
  · rw [Fi.nm_empty.2 h]
    simp
theorem wd_LG : Fi.wd LG.data.toList = true := by decide +kernel
theorem nmL_empty {n : Int} : (nmL n).size = 0 ↔ ¬ (1 ≤ n ∧ n ≤ 99999) := by
  show (Fi.nm LG.data.toList n).toArray.size = 0 ↔ _
  rw [List.size_toArray, List.length_eq_zero_iff, Fi.nm_empty, wd_LG]
  simp
theorem nmL_nil {n : Int} (h : (nmL n).size = 0) : nmL n = ⟨#[]⟩ := by
  apply ByteArray.ext
  exact Array.eq_empty_of_size_eq_zero h
theorem nmL_inj {a b : Int} (h : nmL a = nmL b) (ha : 1 ≤ a) (ha2 : a ≤ 99999) : a = b := by
  have h1 : Fi.nm LG.data.toList a = Fi.nm LG.data.toList b := by
    have := congrArg (fun x : ByteArray => x.data.toList) h
    simpa [nmL, nmB] using this
  refine Fi.nm_inj h1 ?_
  rw [Ne, Fi.nm_empty, wd_LG]
  simp
  omega
theorem names_settle (s : Dk.St) (i k : Nat) : (s.settle i k).names = s.names := by
  unfold Dk.St.settle
  split
  · rename_i f hf
    show ((s.files.set i _).map Dk.F.name) = _
    rw [Dk.names_set (g := ⟨f.name, f.bytes.take k, k⟩) hf rfl]
    rfl
  · rfl
theorem names_sync (s : Dk.St) (n : ByteArray) : (Dk.opSync s n).2.names = s.names := by
  unfold Dk.opSync
  split
  · split
    · exact names_settle _ _ _
    · rfl
  · rfl
theorem names_cut (s : Dk.St) (n : ByteArray) (k : Int) : (Dk.opCut s n k).2.names = s.names := by
  unfold Dk.opCut
  split
  · split
    · exact names_settle _ _ _
    · rfl
  · rfl
theorem names_more (s : Dk.St) (i : Nat) (n x : ByteArray) : (s.more i n x).names = s.names := by
  unfold Dk.St.more
  split
  · rename_i f hf
    show ((s.files.set i _).map Dk.F.name) = _
    rw [Dk.names_set (g := ⟨f.name, f.bytes ++ x.data.toList, f.sure⟩) hf rfl]
    rfl
  · rfl
theorem names_make (s : Dk.St) (n : ByteArray) : (s.make n).names = if Dk.has s.names n then s.names else s.names.take (Dk.place s.names n) ++ n :: s.names.drop (Dk.place s.names n) := by
  unfold Dk.St.make
  split
  · rfl
  · exact Dk.names_mid _ _ _
theorem mem_make {s : Dk.St} {n x : ByteArray} (h : x ∈ (s.make n).names) : x ∈ s.names ∨ x = n := by
  rw [names_make] at h
  split at h
  · exact .inl h
  · rcases List.mem_append.1 h with h | h
    · exact .inl (List.mem_of_mem_take h)
    · rcases List.mem_cons.1 h with h | h
      · exact .inr h
      · exact .inl (List.mem_of_mem_drop h)
theorem mem_append {s : Dk.St} {n y x : ByteArray} (h : x ∈ (Dk.opAppend s n y).2.names) : x ∈ s.names ∨ x = n := by
  unfold Dk.opAppend at h
  split at h
  · split at h
    · split at h
      · exact .inl h
      · simp only at h
        split at h
        · exact mem_make (s := s.spent) h
        · rw [names_more] at h
          exact mem_make (s := s.spent) h
    · exact .inl h
  · exact .inl h
/-- What Sync does. -/
def lSync (s : Dk.St) (f : Int) : Int × Dk.St := if th s (lLast s f) then Dk.opSync s (nmL (lLast s f)) else (0, s)
set_option maxHeartbeats 1000000 in
theorem refused_any {B l b : Nat} {f m : Int} {d : Dk.Ds} {w : World} (h : Sys B l b f m d w) (n wanted : Int) :
    Calls Tryz.prog 48 #[.pointer (some ⟨l, 0, none⟩), .int .i64 n, .int .i64 wanted] w fun e w' => e = .returned (.int .i64 (lRefused d.pl n wanted)) ∧ Below w.heap.size w w' := by
  have k36 := lname_any n w h.vars
  have k53 := asd (fun (u : World) (hu : Below w.heap.size w u) => there_any (h.below hu) n)
  have k69 := asd (fun (u : World) (hu : Below w.heap.size w u) => Dk.holes_any (h.below hu).rep h.ok)
  have k68 := asd (fun (u : World) (hu : Below w.heap.size w u) => Dk.free_any (h.below hu).rep h.ok)
  have C0 := asd (fun (u : World) (hu : Below w.heap.size w u) => (h.below hu).lg.c0)
  have hfew : d.pl.files.length ≤ 16 := h.ok.few
  unfold lRefused
  by_cases h0 : (nmL n).size = 0
  · rw [if_pos h0]
    rw [nmL_nil h0] at k36
    clear h
    go_enter Tryz.func48, Tryz.ntmps48
    go_wp2_with (go_at_call 36; refine k36.mono ?_; rintro e w1 ⟨rfl, b1⟩)
    go_ret
    exact ⟨rfl, b1⟩
  · rw [if_neg h0]
    have hne : ¬ (nmL n).toList = (⟨#[]⟩ : ByteArray).toList := fun e => h0 (by
      rw [ByteArray.toList_eq, ByteArray.toList_eq] at e
      have : nmL n = ⟨#[]⟩ := ByteArray.ext (Array.toList_inj.mp e)
      rw [this]
      rfl)
    have t1 : ((nmL n).toList == (⟨#[]⟩ : ByteArray).toList) = false := by rw [beq_eq_false_iff_ne]; exact hne
    have t0 : (nmL n).toList.isEmpty = false := by
      cases he : (nmL n).toList with
      | nil => exact absurd (by rw [he, ByteArray.toList_eq]) hne
      | cons a b => rfl
    have hne2 : ¬ nmL n = (⟨#[]⟩ : ByteArray) := fun e => h0 (by rw [e]; rfl)
    clear h h0
    generalize nmL n = N at *
    generalize th d.pl n = T at *
    generalize d.pl.files.length = L at *
    generalize d.pl.free = FR at *
    by_cases hf : (FR : Int) < wanted
    · have d2 : decide ((FR : Int) < wanted) = true := decide_eq_true hf
      cases T with
      | true =>
        rw [if_neg (fun h => by cases h.1), if_pos hf]
        go_enter Tryz.func48, Tryz.ntmps48
        go_wp2_with (first
          | (go_at_call 36; refine k36.mono ?_; rintro e w1 ⟨rfl, b1⟩; have c0 := C0.out _ b1)
          | (go_at_call 53; refine (k53.out _ b1).mono ?_; rintro e w2 ⟨rfl, b2⟩; have b2' := b1.trans (b2.mono b1.size); have c0' := C0.out _ b2')
          | (go_at_call 68; refine (k68.out _ b2').mono ?_; rintro e w3 ⟨rfl, b3⟩))
        go_ret
        exact ⟨rfl, b2'.trans (b3.mono b2'.size)⟩
      | false =>
        by_cases hh : 16 - (L : Int) < 3
        · have d3 : decide (16 - (L : Int) < 3) = true := decide_eq_true hh
          rw [if_pos ⟨rfl, hh⟩]
          go_enter Tryz.func48, Tryz.ntmps48
          go_wp2_with (first
            | (go_at_call 36; refine k36.mono ?_; rintro e w1 ⟨rfl, b1⟩; have c0 := C0.out _ b1)
            | (go_at_call 53; refine (k53.out _ b1).mono ?_; rintro e w2 ⟨rfl, b2⟩; have b2' := b1.trans (b2.mono b1.size); have c0' := C0.out _ b2')
            | (go_at_call 69; refine (k69.out _ b2').mono ?_; rintro e w3 ⟨rfl, rfl⟩))
          go_ret
          exact ⟨rfl, b2'⟩
        · have d3 : decide (16 - (L : Int) < 3) = false := decide_eq_false hh
          rw [if_neg (fun h => hh h.2), if_pos hf]
          go_enter Tryz.func48, Tryz.ntmps48
          go_wp2_with (first
            | (go_at_call 36; refine k36.mono ?_; rintro e w1 ⟨rfl, b1⟩; have c0 := C0.out _ b1)
            | (go_at_call 53; refine (k53.out _ b1).mono ?_; rintro e w2 ⟨rfl, b2⟩; have b2' := b1.trans (b2.mono b1.size); have c0' := C0.out _ b2')
            | (go_at_call 69; refine (k69.out _ b2').mono ?_; rintro e w3 ⟨rfl, rfl⟩)
            | (go_at_call 68; refine (k68.out _ b2').mono ?_; rintro e w4 ⟨rfl, b3⟩))
          go_ret
          exact ⟨rfl, b2'.trans (b3.mono b2'.size)⟩
    · have d2 : decide ((FR : Int) < wanted) = false := decide_eq_false hf
      cases T with
      | true =>
        rw [if_neg (fun h => by cases h.1), if_neg hf]
        go_enter Tryz.func48, Tryz.ntmps48
        go_wp2_with (first
          | (go_at_call 36; refine k36.mono ?_; rintro e w1 ⟨rfl, b1⟩; have c0 := C0.out _ b1)
          | (go_at_call 53; refine (k53.out _ b1).mono ?_; rintro e w2 ⟨rfl, b2⟩; have b2' := b1.trans (b2.mono b1.size); have c0' := C0.out _ b2')
          | (go_at_call 68; refine (k68.out _ b2').mono ?_; rintro e w3 ⟨rfl, b3⟩))
        go_ret
        exact ⟨rfl, b2'.trans (b3.mono b2'.size)⟩
      | false =>
        by_cases hh : 16 - (L : Int) < 3
        · have d3 : decide (16 - (L : Int) < 3) = true := decide_eq_true hh
          rw [if_pos ⟨rfl, hh⟩]
          go_enter Tryz.func48, Tryz.ntmps48
          go_wp2_with (first
            | (go_at_call 36; refine k36.mono ?_; rintro e w1 ⟨rfl, b1⟩; have c0 := C0.out _ b1)
            | (go_at_call 53; refine (k53.out _ b1).mono ?_; rintro e w2 ⟨rfl, b2⟩; have b2' := b1.trans (b2.mono b1.size); have c0' := C0.out _ b2')
            | (go_at_call 69; refine (k69.out _ b2').mono ?_; rintro e w3 ⟨rfl, rfl⟩))
          go_ret
          exact ⟨rfl, b2'⟩
        · have d3 : decide (16 - (L : Int) < 3) = false := decide_eq_false hh
          rw [if_neg (fun h => hh h.2), if_neg hf]
          go_enter Tryz.func48, Tryz.ntmps48
          go_wp2_with (first
            | (go_at_call 36; refine k36.mono ?_; rintro e w1 ⟨rfl, b1⟩; have c0 := C0.out _ b1)
            | (go_at_call 53; refine (k53.out _ b1).mono ?_; rintro e w2 ⟨rfl, b2⟩; have b2' := b1.trans (b2.mono b1.size); have c0' := C0.out _ b2')
            | (go_at_call 69; refine (k69.out _ b2').mono ?_; rintro e w3 ⟨rfl, rfl⟩)
            | (go_at_call 68; refine (k68.out _ b2').mono ?_; rintro e w4 ⟨rfl, b3⟩))
          go_ret
          exact ⟨rfl, b2'.trans (b3.mono b2'.size)⟩
end Go.Proofs.YtajjcfacbnicnaaGreatDoor
