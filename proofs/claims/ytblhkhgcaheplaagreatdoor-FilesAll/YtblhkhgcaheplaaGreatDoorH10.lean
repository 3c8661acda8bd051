/-
  FilesAll's first loop: the disk, and both maps, in the midst of it.
-/
import Derived.Test.YtblhkhgcaheplaaGreatDoorH9
namespace Go.Proofs.YtblhkhgcaheplaaGreatDoor
open Go.RowKit
set_option maxRecDepth 100000

theorem mk_bytes (n : Nat) (hn : n ≤ 1000) (u : World) : (Instr.makeSlice 30 (.int .i64 (n : Int)) (.int .i64 (n : Int))).run Tryz.prog u = .ok (.slice (some ⟨u.heap.size, 0, none⟩) n n) (u.alloc (.cells (Dk.bcells (List.replicate n 0)).toArray 5)) := by
  obtain ⟨i0, hi0, hz0, hzs, hzb⟩ := info_parts Dk.info5
  have := run_make (P := Tryz.prog) u 30 5 i0 (.int .u8 0) Tryz.underlying30 hi0 hz0 .i64 .i64 n n (by omega) (Int.le_refl _) (by rw [hzb]; omega) (by omega)
  rw [this]
  simp only [Int.toNat_natCast, hzs, Nat.mul_one]
  have e : madeCells (Value.int IntKind.u8 0).cells n = (Dk.bcells (List.replicate n 0)).toArray := by
    apply Array.ext'
    apply List.ext_getElem?
    intro j
    have hz1 : (Value.int IntKind.u8 0).cells = #[Value.int IntKind.u8 0] := rfl
    by_cases hj : j < n
    · simp [madeCells, Dk.bcells, hz1, hj, Nat.mod_one]
    · simp [madeCells, Dk.bcells, hz1, hj]
  rw [e]

theorem bytes_conv (n : Nat) (hn : n ≤ 1000) (u : World) : (convert 30 9 (.slice (some ⟨u.heap.size, 0, none⟩) n n)).run Tryz.prog (u.alloc (.cells (Dk.bcells (List.replicate n 0)).toArray 5)) = .ok (.string (zeros n)) (u.alloc (.cells (Dk.bcells (List.replicate n 0)).toArray 5)) := by
  have := Dk.conv_row (w := u.alloc (.cells (Dk.bcells (List.replicate n 0)).toArray 5)) (base := 0) (v := .slice (some ⟨u.heap.size, 0, none⟩) n n) (l := List.replicate n 0)
    (by
      rw [List.length_replicate]
      exact ⟨by simp [Dk.bcells], .inr ⟨u.heap.size, n, (Dk.bcells (List.replicate n 0)).toArray, rfl, Nat.zero_le _, heap_alloc_new u _, Nat.le_refl _, by unfold maxLen; omega, by simp [Dk.bcells], by simp only [Nat.mul_one]; exact List.take_of_length_le (by simp [Dk.bcells])⟩⟩)
  exact this

structure Lp (w wr : World) (b m8 m9 : Nat) (d : Dk.Ds) (P : List (Int × Nat)) (Q : List ByteArray) : Prop where
  below : Below w.heap.size w wr
  rep : Dk.Rep wr w.heap.size b d
  mi : MapI wr m8 P
  ms : MapS wr m9 Q
  l8 : w.heap.size ≤ m8
  l9 : w.heap.size ≤ m9
  ne : ¬ m8 = m9
  o8 : m8 ∉ d.foot b
  o9 : m9 ∉ d.foot b

theorem Lp.later {w wr w' : World} {b m8 m9 : Nat} {d : Dk.Ds} {P : List (Int × Nat)} {Q : List ByteArray} (h : Lp w wr b m8 m9 d P Q) (hb : Below wr.heap.size wr w') : Lp w w' b m8 m9 d P Q :=
  ⟨h.below.trans (hb.mono h.below.size), h.rep.below hb, h.mi.frame (hb.block _ h.mi.lt), h.ms.frame (hb.block _ h.ms.lt), h.l8, h.l9, h.ne, h.o8, h.o9⟩

theorem Lp.step {w wr w' : World} {b m8 m9 : Nat} {d d' : Dk.Ds} {P : List (Int × Nat)} {Q : List ByteArray} (h : Lp w wr b m8 m9 d P Q) (hr : Dk.Rep w' w.heap.size b d') (hs : Dk.Step (d.foot b) (d'.foot b) wr w') : Lp w w' b m8 m9 d' P Q := by
  refine ⟨h.below.trans (hs.below (fun k hk => (h.rep.lt k hk).1) h.below.size), hr, h.mi.frame (hs.block _ h.mi.lt h.o8), h.ms.frame (hs.block _ h.ms.lt h.o9), h.l8, h.l9, h.ne, fun hm => ?_, fun hm => ?_⟩
  · rcases hs.sub _ hm with e | e
    · exact h.o8 e
    · have := h.mi.lt
      omega
  · rcases hs.sub _ hm with e | e
    · exact h.o9 e
    · have := h.ms.lt
      omega

theorem grown_below {w w' : World} {m B : Nat} (hg : w.grownBy w' (some m)) (hm : B ≤ m) (hB : B ≤ w.heap.size) : Below B w w' :=
  ⟨hg.os, hg.tape, hg.output, hg.size, fun k hk => hg.block k (by omega) (fun e => by injection e with e; omega)⟩

theorem Lp.putS {w wr w' : World} {b m8 m9 : Nat} {d : Dk.Ds} {P : List (Int × Nat)} {Q Q' : List ByteArray} (h : Lp w wr b m8 m9 d P Q) (hm : MapS w' m9 Q') (hg : wr.grownBy w' (some m9)) : Lp w w' b m8 m9 d P Q' :=
  ⟨h.below.trans (grown_below hg h.l9 h.below.size), h.rep.frame fun k hk => hg.block k (h.rep.lt k hk).2 (fun e => by injection e with e; subst e; exact h.o9 hk), h.mi.kept hg (fun e => by injection e with e; exact h.ne e), hm, h.l8, h.l9, h.ne, h.o8, h.o9⟩

theorem Lp.putI {w wr w' : World} {b m8 m9 : Nat} {d : Dk.Ds} {P P' : List (Int × Nat)} {Q : List ByteArray} (h : Lp w wr b m8 m9 d P Q) (hm : MapI w' m8 P') (hg : wr.grownBy w' (some m8)) : Lp w w' b m8 m9 d P' Q :=
  ⟨h.below.trans (grown_below hg h.l8 h.below.size), h.rep.frame fun k hk => hg.block k (h.rep.lt k hk).2 (fun e => by injection e with e; subst e; exact h.o8 hk), hm, h.ms.kept hg (fun e => by injection e with e; exact h.ne e.symm), h.l8, h.l9, h.ne, h.o8, h.o9⟩

theorem Lp.init {w w1 : World} {b : Nat} {d : Dk.Ds} (hb : Below w.heap.size w w1) (h : Dk.Rep w1 w.heap.size b d) : Lp w ((w1.alloc (.map #[] 0)).alloc (.map #[] 0)) b w1.heap.size (w1.heap.size + 1) d [] [] := by
  have h1 := MapI.made w1
  have h2 := MapS.made (w1.alloc (.map #[] 0))
  have e : (w1.alloc (.map #[] 0)).heap.size = w1.heap.size + 1 := by simp
  rw [e] at h2
  have b1 : Below w1.heap.size w1 (w1.alloc (.map #[] 0)) := (Below.refl _ _).alloc (Nat.le_refl _) _
  have b2 : Below (w1.alloc (.map #[] 0)).heap.size (w1.alloc (.map #[] 0)) ((w1.alloc (.map #[] 0)).alloc (.map #[] 0)) := (Below.refl _ _).alloc (Nat.le_refl _) _
  have b3 := b1.trans (b2.mono b1.size)
  have hz := hb.size
  refine ⟨hb.trans (b3.mono hz), h.below b3, h1.frame (b2.block _ (by simp)), h2, hz, by omega, by omega, fun hm => ?_, fun hm => ?_⟩
  · have := (h.lt _ hm).2
    omega
  · have := (h.lt _ hm).2
    omega

theorem ok_empty : Dk.Ok Dk.emptySt := ⟨trivial, by simp [Dk.emptySt], by simp [Dk.emptySt], by simp [Dk.emptySt], by simp [Dk.emptySt, Dk.St.total], by simp [Dk.emptySt], by simp [Dk.emptySt], by simp [Dk.emptySt]⟩
theorem empty_has : Has (Dk.opRoom Dk.emptySt 60000) [] := ⟨Dk.Ok.opRoom ok_empty 60000, List.Perm.refl _, rfl, rfl, fun x hx => (by cases hx), fun x hx => (by cases hx)⟩

theorem hasP_app (s : ByteArray) (M : List (ByteArray × Nat)) (x : ByteArray × Nat) : hasP s (M ++ [x]) = hasP s M ++ pairOf s x := by simp [hasP]

/-- A name that isn't there has a number that isn't there. -/
theorem key_new {s : ByteArray} {M : List (ByteArray × Nat)} {t : ByteArray} (hn : Dk.has (M.map Prod.fst) t = false) (hp : 0 < nR s t) : ((hasP s M).any fun x => decide (x.1 = (nR s t : Int))) = false := by
  rw [List.any_eq_false]
  rintro ⟨n, i⟩ hx e
  obtain ⟨y, hy, hyp, hyn, _⟩ := mem_hasP.1 hx
  simp only [decide_eq_true_eq] at e
  have h1 : nmB s (nR s t : Int) = t := name_of hp
  have h2 : nmB s (nR s y.1 : Int) = y.1 := name_of hyp
  rw [← e, hyn, h2] at h1
  have : Dk.has (M.map Prod.fst) t = true := Dk.has_iff.2 (h1 ▸ List.mem_map.2 ⟨y, hy, rfl⟩)
  rw [hn] at this
  cases this
end Go.Proofs.YtblhkhgcaheplaaGreatDoor
