/-
  The digest's bytes; the digest of what came, and of a text.
-/
import Derived.Test.YtkijglkjpgjdaaaDoorHW9
import Derived.Laws.BytesArg
namespace Go.Proofs.YtkijglkjpgjdaaaDoor.Ha
open Go.RowKit

def strOf (l : List Nat) : ByteArray := ⟨(l.map UInt8.ofNat).toArray⟩
def nums (l : List Nat) : List Value := l.map fun x : Nat => Value.int .u8 (x : Int)

theorem strOf_nums (l : List Nat) : strOfNums (l.map fun x : Nat => (x : Int)) = strOf l := by
  unfold strOfNums strOf
  rw [List.map_map]
  rfl

theorem conv_own (base g cap : Nat) (l : List Nat) (n : Nat) (w : World) (hl : l.length = n) (hown : w.ownsRow base 5 1 (.slice (some ⟨g, 0, none⟩) n cap) n (nums l)) :
    (convert 41 9 (.slice (some ⟨g, 0, none⟩) n cap)).run Tryd.prog w = .ok (.string (strOf l)) w := by
  rw [← strOf_nums]
  refine run_convert_bytes_arg w 41 5 Tryd.underlying41 Tryd.underlying5 g 0 n cap _ (by simpa using hl) (fun i hi => ?_) 9 Tryd.underlying9
  rw [Nat.zero_add, hown.cellAt i (by omega)]
  have hi' : i < l.length := by omega
  simp [nums, List.getElem?_eq_getElem hi']

theorem info5 : (Tryd.prog.info? 5).map (fun i => (i.zero, i.size, i.bytes)) = some (some (.int .u8 0), 1, 1) := by kernel_rfl

/-- The words' bytes, so many words. -/
def digN (v : Sh.V8) (k : Nat) : List Nat := (([v.a, v.b, v.c, v.d, v.e, v.f, v.g, v.h].take k).map Sh.wordB).flatten

theorem digN_all (v : Sh.V8) : digN v 8 = Sh.dig v := by simp [digN, Sh.dig]

def wd (v : Sh.V8) (k : Nat) : Nat := [v.a, v.b, v.c, v.d, v.e, v.f, v.g, v.h].getD k 0

theorem digN_succ (v : Sh.V8) (k : Nat) (h : k < 8) : digN v (k + 1) = digN v k ++ Sh.wordB (wd v k) := by
  unfold digN wd
  rw [List.take_succ_eq_append_getElem (by simpa using h)]
  simp only [List.map_append, List.flatten_append, List.map_cons, List.map_nil, List.flatten_cons, List.flatten_nil, List.append_nil]
  rw [List.getD, List.getElem?_eq_getElem (by simpa using h)]
  rfl

theorem digN_len (v : Sh.V8) : ∀ k, k ≤ 8 → (digN v k).length = 4 * k
  | 0, _ => rfl
  | k + 1, h => by
    rw [digN_succ v k (by omega), List.length_append, digN_len v k (by omega)]
    simp [Sh.wordB]
    omega

theorem index_vals (v : Sh.V8) (k : Nat) (h : k < 8) (w : World) : (Instr.index 75 (.agg (vals v)) (.int .i64 (k : Int))).run Tryd.prog w = .ok (.int .u32 (wd v k : Nat)) w := by
  rcases k with _ | _ | _ | _ | _ | _ | _ | _ | k
  all_goals first | omega | (simp [Instr.index, vals, wd, go_sem]; done)

theorem wd_lt {v : Sh.V8} (hv : v.Ok) (k : Nat) (h : k < 8) : wd v k < 4294967296 := by
  rcases k with _ | _ | _ | _ | _ | _ | _ | _ | k
  · exact hv.a
  · exact hv.b
  · exact hv.c
  · exact hv.d
  · exact hv.e
  · exact hv.f
  · exact hv.g
  · exact hv.h
  · omega

theorem mk_bytes (c : Nat) (hc : c ≤ 1000000000) (w : World) : (Instr.makeSlice 41 (.int .i64 0) (.int .i64 (c : Int))).run Tryd.prog w = .ok (.slice (some ⟨w.heap.size, 0, none⟩) 0 c) (w.alloc (.cells (madeCells #[.int .u8 0] c) 5)) := by
  obtain ⟨i, hi, hz0, hz1, hz2⟩ := info_parts info5
  have hr := run_make (P := Tryd.prog) w 41 5 i (.int .u8 0) Tryd.underlying41 hi hz0 .i64 .i64 0 (c : Int) (by omega) (by omega) (by rw [hz2]; omega) (by omega)
  simp only [Int.toNat_natCast, hz1, Nat.mul_one] at hr
  exact hr

theorem nums_append (l m : List Nat) : nums l ++ nums m = nums (l ++ m) := by simp [nums]
theorem nums_wordB (x : Nat) (_hx : x < 4294967296) : [Value.int .u8 ((x : Int) / 16777216), .int .u8 ((x : Int) / 65536 % 256), .int .u8 ((x : Int) / 256 % 256), .int .u8 ((x : Int) % 256)] = nums (Sh.wordB x) := by
  simp only [nums, Sh.wordB, List.map_cons, List.map_nil]
  rw [show (x : Int) / 16777216 = ((x / 16777216 : Nat) : Int) by omega, show (x : Int) / 65536 % 256 = ((x / 65536 % 256 : Nat) : Int) by omega, show (x : Int) / 256 % 256 = ((x / 256 % 256 : Nat) : Int) by omega, show (x : Int) % 256 = ((x % 256 : Nat) : Int) by omega]

set_option maxHeartbeats 1600000 in
set_option maxRecDepth 100000 in
theorem wb_any (v : Sh.V8) (w : World) (hv : v.Ok) :
    Calls Tryd.prog 79 #[.agg (vals v)] w fun e w' => e = .returned (.string (strOf (Sh.dig v))) ∧ Below w.heap.size w w' := by
  obtain ⟨i0, hi, hz0, hz1, hz2⟩ := info_parts info5
  have hb0 := (Blk.new w 75 (vals v)).alloc (.cells (madeCells #[.int .u8 0] 32) 5)
  have hmk : ∀ w, (Instr.makeSlice 41 (.int .i64 0) (.int .i64 32)).run Tryd.prog w = .ok (.slice (some ⟨w.heap.size, 0, none⟩) 0 32) (w.alloc (.cells (madeCells #[.int .u8 0] 32) 5)) := mk_bytes 32 (by decide)
  have hown : Aside (((w.alloc (.cells (vals v) 75)).alloc (.cells (madeCells #[.int .u8 0] 32) 5)).ownsRow w.heap.size 5 1 (.slice (some ⟨w.heap.size + 1, 0, none⟩) 0 32) 0 (nums (digN v 0))) := by
    have := World.ownsRow_made (base := w.heap.size) (e := 5) (size := 1) (w.alloc (.cells (vals v) 75)) (madeCells #[.int .u8 0] 32) 32 (by simp) (by decide) (size_madeCells _ _)
    rw [size_alloc] at this
    exact this
  have hbel : Aside (Below w.heap.size w ((w.alloc (.cells (vals v) 75)).alloc (.cells (madeCells #[.int .u8 0] 32) 5))) := ((Below.refl _ _).alloc (Nat.le_refl _) _).alloc (by simp) _
  have HV : Aside (v.Ok) := hv
  clear hv
  go_enter Tryd.func79, Tryd.ntmps79
  go_wp2_with (refine wpList_load_row rfl 75 _ rfl _ rfl 75 _ (0, 0) _ hb0 Tryd.underlying75 rfl sz24 ?_)
  clear hb0 hmk
  go_loopg [3, 8] 8 (fun gh s3 s8 wr => ∃ k : Nat, 8 - k ≤ gh ∧ k ≤ 8 ∧ s8 = .int .i64 (k : Int) ∧ wr.ownsRow w.heap.size 5 1 s3 (4 * k) (nums (digN v k)) ∧ Below w.heap.size w wr)
  case atStart => exact ⟨0, by omega, by omega, rfl, hown.out, hbel.out⟩
  case round =>
    clear hown hbel
    obtain ⟨k, hgh, hk, rfl, hown, hbel⟩ := hrel
    by_cases hlt : k < 8
    · have d1 : decide ((k : Int) < 8) = true := by simp; omega
      obtain ⟨x, hx⟩ : ∃ x, x = wd v k := ⟨_, rfl⟩
      have hvk := index_vals v k hlt
      rw [← hx] at hvk
      have hxl : x < 4294967296 := by rw [hx]; exact wd_lt HV.out k hlt
      have HX : Aside (x = wd v k ∧ Below w.heap.size w wr) := ⟨hx, hbel⟩
      clear hx
      go_wp2_with (first
        | (at_builtin; refine wpList_append_own _ rfl (.tmp 11) (.tmp 23) 41 rfl w.heap.size 5 i0 (.int .u8 0) 1 1 Tryd.underlying41 hi hz0 hz1 hz2 rfl (by decide) _ _ _ rfl (hown.alloc _) ⟨wr.heap.size, 0, none⟩ 4 4 [.int .u8 ((x : Int) / 16777216), .int .u8 ((x : Int) / 65536 % 256), .int .u8 ((x : Int) / 256 % 256), .int .u8 ((x : Int) % 256)] rfl rfl ?c1 ?c2 ?c3 ?c4 ?c5 ?_))
      case c1 =>
        intro j u hu
        have := (Blk.new wr 5 #[.int .u8 ((x : Int) / 16777216), .int .u8 ((x : Int) / 65536 % 256), .int .u8 ((x : Int) / 256 % 256), .int .u8 ((x : Int) % 256)]).cell (i := j) (v := u) (by simpa using hu)
        rw [Addr.add_mid, Nat.zero_add]
        exact this
      case c2 => intro u hu; simp only [List.mem_cons, List.not_mem_nil, or_false] at hu; rcases hu with rfl | rfl | rfl | rfl <;> rfl
      case c3 => unfold maxLen; omega
      case c4 => omega
      case c5 => have := hbel.size; simp; omega
      intro v' w1 hown' hgrow _
      have R : Aside (w1.ownsRow w.heap.size 5 1 v' (4 * (k + 1)) (nums (digN v (k + 1))) ∧ Below w.heap.size w w1) := by
        rw [nums_wordB x hxl, nums_append, HX.out.1, ← digN_succ v k hlt] at hown'
        exact ⟨hown', (HX.out.2.alloc HX.out.2.size _).grown hgrow (by have := HX.out.2.size; simp; omega) (fun g hg => (hown.lt g hg).1)⟩
      clear hown' hgrow hown hbel hvk
      go_wp2
      go_roundg (8 - (k + 1))
      case measure => omega
      case rel => exact ⟨k + 1, Nat.le_refl _, by omega, by go_num, R.out⟩
    · obtain rfl : k = 8 := by omega
      rcases hown.2 with ⟨_, h0⟩ | ⟨g, cap, cur, rfl, hbg, _⟩
      · omega
      · have hconv := conv_own w.heap.size g cap (digN v 8) (4 * 8) wr (digN_len v 8 (by omega)) hown
        rw [digN_all] at hconv
        have HB : Aside (Below w.heap.size w wr) := hbel
        clear hown hbel
        go_wp2
        go_ret
        exact ⟨rfl, HB.out⟩
theorem cellsH_one (h : Sh.HS) : (cellsH h).all (·.oneCell') = true := all_oneCell_toArray fun v hv => by
  simp only [cellsL, vals, u8s, List.mem_append, List.mem_map, List.mem_cons, List.not_mem_nil, or_false] at hv
  rcases hv with (rfl | rfl | rfl | rfl | rfl | rfl | rfl | rfl) | ⟨y, _, rfl⟩ | rfl <;> rfl

set_option maxHeartbeats 1600000 in
set_option maxRecDepth 100000 in
theorem hsum_any (h : Sh.HS) (b : Nat) (w : World) (hH : Hs b h w) (hok : h.Ok) (hn : h.n < 900000000) :
    Calls Tryd.prog 52 #[.pointer (some ⟨b, 0, none⟩)] w fun e w' => e = .returned (.string (strOf (Sh.dig (Sh.putAll h ([128] ++ List.replicate (Sh.zs h.n) 0 ++ Sh.be (8 * h.n) 8)).v))) ∧ Below w.heap.size w w' := by
  have hz := zero46
  have hB := hH.at_.1
  have hS : Aside (Hs w.heap.size h (w.alloc (.cells (cellsH h) 92)) ∧ Below w.heap.size w (w.alloc (.cells (cellsH h) 92))) := by
    have hbel : Below w.heap.size w (w.alloc (.cells (cellsH h) 92)) := (Below.refl _ _).alloc (Nat.le_refl _) _
    exact ⟨⟨⟨Blk.new w 92 (cellsH h), hok.blk⟩, hH.tab.later hbel⟩, hbel⟩
  have hsz : (Tryd.prog.info? 92).map (·.size) = some (cellsH h).size := by rw [cellsH_size h hok.blk]; exact sz46
  have hsz0 : (cellsH Sh.h0).size = (cellsH h).size := by rw [cellsH_size h hok.blk, cellsH_size _ Sh.h0_ok.blk]
  have hpos : w.heap.size ≠ 4 := by have := hH.tab.pos; omega
  have k22 : Aside (∀ u, Hs w.heap.size h u → Calls Tryd.prog 78 #[.pointer (some ⟨w.heap.size, 0, none⟩)] u fun e w' => e = .returned (.tuple #[]) ∧ Hs w.heap.size (Sh.putAll h ([128] ++ List.replicate (Sh.zs h.n) 0 ++ Sh.be (8 * h.n) 8)) w' ∧ Upd w.heap.size u w') :=
    fun u hu => pad_any h w.heap.size u hu hpos hok hn
  have hok2 : Aside ((Sh.putAll h ([128] ++ List.replicate (Sh.zs h.n) 0 ++ Sh.be (8 * h.n) 8)).Ok) := Sh.putAll_ok hok _ (fun y hy => by
            simp only [List.mem_append, List.mem_singleton, List.mem_replicate, Sh.be, List.mem_map] at hy
            rcases hy with (hy | hy) | ⟨j, _, hy⟩
            · omega
            · omega
            · rw [← hy]
              exact Nat.mod_lt _ (by decide))
  generalize Sh.putAll h ([128] ++ List.replicate (Sh.zs h.n) 0 ++ Sh.be (8 * h.n) 8) = h2 at k22 hok2 ⊢
  clear hH hok hn
  go_enter Tryd.func52, Tryd.ntmps52
  go_wp2_with (first
    | (refine wpList_load_row rfl 92 _ rfl _ rfl 92 _ (0, 0) _ hB Tryd.underlying92 rfl hsz ?_)
    | (refine wpList_store_row rfl 92 _ _ rfl _ _ rfl rfl 92 _ (heap_alloc_new _ _) hsz hsz0 (cellsH_one h) ?_; rw [World.setRow_alloc_new]; generalize w.alloc (.cells (cellsH h) 92) = wq at hS ⊢)
    | (go_at_call 78; refine (k22.out _ hS.out.1).mono ?_; rintro e w1 ⟨rfl, h3, h4⟩; have hR := h3.at_.rangeV)
    | (refine wpList_load_mid rfl 75 _ rfl w.heap.size 0 rfl _ _ hR Tryd.underlying75 rfl sz24 ?_)
    | (go_at_call 79; refine (wb_any h2.v _ hok2.out.v).mono ?_; rintro e w2 ⟨rfl, hb2⟩))
  go_ret
  have b1 := h4.below hS.out.2 (Nat.le_refl _) hS.out.2.size
  exact ⟨rfl, b1.trans (hb2.mono b1.size)⟩

theorem end_sha (l : List Nat) (h : Sh.HS) (hh : h = Sh.putAll Sh.h0 l) : Sh.dig (Sh.putAll h ([128] ++ List.replicate (Sh.zs h.n) 0 ++ Sh.be (8 * h.n) 8)).v = Sh.sha l := by
  have hn : h.n = l.length := by rw [hh, Sh.putAll_n]; simp [Sh.h0]
  rw [hn, hh, ← Sh.putAll_append, ← Sh.sha_put]
  simp only [Sh.padded, List.append_assoc]

/-- The digest of all that came. -/
theorem hsum_all (l : List Nat) (b : Nat) (w : World) (hH : Hs b (Sh.putAll Sh.h0 l) w) (hl : ∀ x ∈ l, x < 256) (hn : l.length < 900000000) :
    Calls Tryd.prog 52 #[.pointer (some ⟨b, 0, none⟩)] w fun e w' => e = .returned (.string (strOf (Sh.sha l))) ∧ Below w.heap.size w w' := by
  have h := hsum_any (Sh.putAll Sh.h0 l) b w hH (Sh.putAll_ok Sh.h0_ok l hl) (by rw [Sh.putAll_n]; simp only [Sh.h0]; omega)
  rw [end_sha l _ rfl] at h
  exact h

set_option maxHeartbeats 1600000 in
theorem sum_any (s : ByteArray) (w : World) (hT : Tab w) (hs : s.size < 800000000) :
    Calls Tryd.prog 29 #[.string s] w fun e w' => e = .returned (.string (strOf (Sh.sha (bytes s)))) ∧ Below w.heap.size w w' := by
  have k13 := new_any w hT
  have hpos : w.heap.size ≠ 4 := by have := hT.pos; omega
  clear hT
  go_enter Tryd.func29, Tryd.ntmps29
  go_wp2_with (first
    | (go_at_call 50; refine k13.mono ?_; rintro e w1 ⟨rfl, h1, h2, h3⟩)
    | (go_at_call 51; refine (write_any Sh.h0 s w.heap.size w1 h1 hpos Sh.h0_ok (by simp only [Sh.h0]; omega)).mono ?_; rintro e w2 ⟨rfl, h4, h5⟩)
    | (go_at_call 52; refine (hsum_all (bytes s) w.heap.size w2 h4 (bytes_lt s) (by rw [bytes_len]; omega)).mono ?_; rintro e w3 ⟨rfl, h6⟩))
  go_ret
  have b2 := h5.below h2 (Nat.le_refl _) h2.size
  exact ⟨rfl, b2.trans (h6.mono b2.size)⟩
end Go.Proofs.YtkijglkjpgjdaaaDoor.Ha
