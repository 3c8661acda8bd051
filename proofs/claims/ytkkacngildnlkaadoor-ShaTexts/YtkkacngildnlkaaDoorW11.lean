/-
  Bytes to base 16, as the program has it.
-/
import Derived.Test.YtkkacngildnlkaaDoorW10
namespace Go.Proofs.YtkkacngildnlkaaDoor
open Go.RowKit

def hexd (n : Nat) : Nat := if n < 10 then 48 + n else 87 + n
def hexL (l : List Nat) : List Nat := (l.map fun x => [hexd (x / 16), hexd (x % 16)]).flatten

theorem hexL_snoc (l : List Nat) (x : Nat) : hexL (l ++ [x]) = hexL l ++ [hexd (x / 16), hexd (x % 16)] := by simp [hexL]
theorem hexL_len (l : List Nat) : (hexL l).length = 2 * l.length := by
  induction l with
  | nil => rfl
  | cons x l ih =>
    have : hexL (x :: l) = [hexd (x / 16), hexd (x % 16)] ++ hexL l := by simp [hexL]
    rw [this, List.length_append, ih]
    simp
    omega

theorem digit_is (n : Nat) (hn : n < 16) (w : World) : (Instr.index 9 (.string ⟨#[48, 49, 50, 51, 52, 53, 54, 55, 56, 57, 97, 98, 99, 100, 101, 102]⟩) (.int .u8 (n : Int))).run Tryd.prog w = .ok (.int .u8 (hexd n : Nat)) w := by
  have hb : ∀ m : Fin 16, (⟨#[48, 49, 50, 51, 52, 53, 54, 55, 56, 57, 97, 98, 99, 100, 101, 102]⟩ : ByteArray)[m.val]? = some (UInt8.ofNat (hexd m.val)) ∧ (UInt8.ofNat (hexd m.val)).toNat = hexd m.val := by decide
  obtain ⟨h1, h2⟩ := hb ⟨n, hn⟩
  simp only at h1 h2
  have h0 : (0 : Int) ≤ (n : Int) := by omega
  simp only [Instr.index, asIntOf, Sem.run_bind, Sem.run_pure, Result.andThen_ok, run_underlying Tryd.underlying9, h0, if_true, Int.toNat_natCast, h1, h2]

theorem and15 (x : Nat) (h : x < 256) : bits BinOp.and IntKind.u8 (x : Int) 15 = ((x % 16 : Nat) : Int) := by
  have h : ∀ m : Fin 256, bits BinOp.and IntKind.u8 (m.val : Int) 15 = ((m.val % 16 : Nat) : Int) := by decide +kernel
  exact h ⟨x, by assumption⟩

theorem append_to {P : Program} {Q : Exit → Act → World → Prop} {o : Oper} {a : Act} {w : World} {K : Act → World → Prop} (dst : Option Tmp) (hdst : o.dst = dst) (s x : Operand) (t : TypeId)
    (ho : o.op = .call { callee := .builtin .append, args := #[s, x], argTypes := #[t, t] })
    (base : Nat) (e : TypeId) (i : TypeInfo) (z : Value) (size bytes : Nat) (ht : P.underlying t = some (.slice e)) (hi : P.info? e = some i) (hz : i.zero = some z)
    (hsize : i.size = size) (hby : i.bytes = bytes) (hzs : z.cells.size = size) (hsz : 0 < size)
    (v : Value) (n : Nat) (xs : List Value) (hs : a.eval s = v) (hown : w.ownsRow base e size v n xs)
    (ad : Addr) (m c : Nat) (news : List Value) (hx : a.eval x = .slice (some ad) m c) (hl : news.length = m * size) (hnews : ∀ j u, news[j]? = some u → w.cell? (ad.add j) = some u) (h1 : ∀ u ∈ news, u.oneCell' = true)
    (h63 : n + m ≤ maxLen) (hbytes : (n + m) * bytes ≤ 140737488355328) (hbase : base ≤ w.heap.size)
    (h : ∀ v' w', w'.ownsRow base e size v' (n + m) (xs ++ news) → w.grownBy w' v.ownBlock → (v' = .slice none 0 0 ↔ v = .slice none 0 0 ∧ m = 0) → K (a.put dst v') w') : o.wp P a w K Q := by
  subst hdst
  exact wp_append_own w s x t ho base e i z size bytes ht hi hz hsize hby hzs hsz v n xs hs hown ad m c news hx hl hnews h1 h63 hbytes hbase h

set_option maxHeartbeats 1600000 in
set_option maxRecDepth 100000 in
theorem hex_any (s : ByteArray) (w : World) (hs : s.size ≤ 100000) :
    Calls Tryd.prog 11 #[.string s] w fun e w' => e = .returned (.string (strOf (hexL (bytes s)))) ∧ Below w.heap.size w w' := by
  obtain ⟨i0, hi, hz0, hz1, hz2⟩ := info_parts info5
  have hmk : ∀ w, (Instr.makeSlice 37 (.int .i64 0) (.int .i64 (2 * (s.size : Int)))).run Tryd.prog w = .ok (.slice (some ⟨w.heap.size, 0, none⟩) 0 (2 * s.size)) (w.alloc (.cells (madeCells #[.int .u8 0] (2 * s.size)) 5)) := mk_bytes (2 * s.size) (by omega)
  have hown : Aside ((w.alloc (.cells (madeCells #[.int .u8 0] (2 * s.size)) 5)).ownsRow w.heap.size 5 1 (.slice (some ⟨w.heap.size, 0, none⟩) 0 (2 * s.size)) (2 * 0) (nums (hexL ((bytes s).take 0)))) :=
    World.ownsRow_made (base := w.heap.size) (e := 5) (size := 1) w (madeCells #[.int .u8 0] (2 * s.size)) (2 * s.size) (by simp) (by unfold maxLen; omega) (by rw [size_madeCells]; omega)
  have hbel : Aside (Below w.heap.size w (w.alloc (.cells (madeCells #[.int .u8 0] (2 * s.size)) 5))) := (Below.refl _ _).alloc (Nat.le_refl _) _
  go_enter Tryd.func11, Tryd.ntmps11
  go_wp2
  clear hmk
  go_loopg [3, 11] s.size (fun gh s3 s11 wr => ∃ k : Nat, s.size - k ≤ gh ∧ k ≤ s.size ∧ s11 = .int .i64 (k : Int) ∧ wr.ownsRow w.heap.size 5 1 s3 (2 * k) (nums (hexL ((bytes s).take k))) ∧ Below w.heap.size w wr)
  case atStart => exact ⟨0, by omega, by omega, rfl, hown.out, hbel.out⟩
  case round =>
    clear hown hbel
    obtain ⟨k, hgh, hk, rfl, hown, hbel⟩ := hrel
    by_cases hlt : k < s.size
    · obtain ⟨x, hx⟩ : ∃ x, s[k].toNat = x := ⟨_, rfl⟩
      have hxl : x < 256 := by rw [← hx]; exact s[k].toNat_lt
      obtain ⟨a, ha⟩ : ∃ a, a = x / 16 := ⟨_, rfl⟩
      obtain ⟨c, hc⟩ : ∃ c, c = x % 16 := ⟨_, rfl⟩
      have e1 : (x : Int) / 16 = (a : Int) := by omega
      have e2 : bits BinOp.and IntKind.u8 (x : Int) 15 = (c : Int) := by rw [hc]; exact and15 x hxl
      have g1 := digit_is a (by omega)
      have g2 := digit_is c (by omega)
      have hda : hexd a < 256 := by unfold hexd; split <;> omega
      have hdc : hexd c < 256 := by unfold hexd; split <;> omega
      have HX : Aside (hexL ((bytes s).take (k + 1)) = hexL ((bytes s).take k) ++ [hexd a, hexd c] ∧ wr.ownsRow w.heap.size 5 1 u3 (2 * k) (nums (hexL ((bytes s).take k))) ∧ Below w.heap.size w wr) := by
        refine ⟨?_, hown, hbel⟩
        rw [bytes_at s k hlt, hexL_snoc, hx, ← ha, ← hc]
      clear ha hc hown hbel
      generalize hexd a = da at g1 hda HX
      generalize hexd c = dc at g2 hdc HX
      go_wp2_with fail
      refine wp_region_any (by kernel_rfl) ?_
      change wpAny _ _ _ _ _ _ _ (World.drew _)
      refine take_to (i := 0) (v := u3) (some 14) rfl rfl (by kernel_rfl) (by kernel_rfl) (by kernel_rfl) (fun _ _ _ h => h) (Or.inl ⟨by rfl, fun u => by go_simp⟩) ?_
      simp only [Act.put, List.setIfInBounds_toArray, List.set_cons_zero, List.set_cons_succ]
      refine take_to (i := 1) (v := .string s) (some 15) rfl rfl (by kernel_rfl) (by kernel_rfl) (by kernel_rfl) (fun _ _ _ h => h) (Or.inl ⟨by rfl, fun u => by go_simp⟩) ?_
      simp only [Act.put, List.setIfInBounds_toArray, List.set_cons_zero, List.set_cons_succ]
      refine take_to (i := 2) (v := .int .i64 (k : Int)) (some 16) rfl rfl (by kernel_rfl) (by kernel_rfl) (by kernel_rfl) (fun _ _ _ h => h) (Or.inl ⟨by rfl, fun u => by go_simp⟩) ?_
      simp only [Act.put, List.setIfInBounds_toArray, List.set_cons_zero, List.set_cons_succ]
      refine take_to (i := 3) (v := .int .u8 (x : Int)) (some 17) rfl rfl (by kernel_rfl) (by kernel_rfl) (by kernel_rfl) (fun _ _ _ h => h) (Or.inl ⟨by rfl, fun u => by go_simp⟩) ?_
      simp only [Act.put, List.setIfInBounds_toArray, List.set_cons_zero, List.set_cons_succ]
      refine take_to (i := 4) (v := .int .u8 (a : Int)) (some 18) rfl rfl (by kernel_rfl) (by kernel_rfl) (by kernel_rfl) (fun _ _ _ h => h) (Or.inl ⟨by rfl, fun u => by go_simp⟩) ?_
      simp only [Act.put, List.setIfInBounds_toArray, List.set_cons_zero, List.set_cons_succ]
      refine take_to (i := 5) (v := .int .u8 (da : Int)) (some 19) rfl rfl (by kernel_rfl) (by kernel_rfl) (by kernel_rfl) (fun _ _ _ h => h) (Or.inl ⟨by rfl, fun u => by go_simp⟩) ?_
      simp only [Act.put, List.setIfInBounds_toArray, List.set_cons_zero, List.set_cons_succ]
      refine take_to (i := 6) (v := .string s) (some 20) rfl rfl (by kernel_rfl) (by kernel_rfl) (by kernel_rfl) (fun _ _ _ h => h) (Or.inl ⟨by rfl, fun u => by go_simp⟩) ?_
      simp only [Act.put, List.setIfInBounds_toArray, List.set_cons_zero, List.set_cons_succ]
      refine take_to (i := 7) (v := .int .i64 (k : Int)) (some 21) rfl rfl (by kernel_rfl) (by kernel_rfl) (by kernel_rfl) (fun _ _ _ h => h) (Or.inl ⟨by rfl, fun u => by go_simp⟩) ?_
      simp only [Act.put, List.setIfInBounds_toArray, List.set_cons_zero, List.set_cons_succ]
      refine take_to (i := 8) (v := .int .u8 (x : Int)) (some 22) rfl rfl (by kernel_rfl) (by kernel_rfl) (by kernel_rfl) (fun _ _ _ h => h) (Or.inl ⟨by rfl, fun u => by go_simp⟩) ?_
      simp only [Act.put, List.setIfInBounds_toArray, List.set_cons_zero, List.set_cons_succ]
      refine take_to (i := 9) (v := .int .u8 (c : Int)) (some 23) rfl rfl (by kernel_rfl) (by kernel_rfl) (by kernel_rfl) (fun _ _ _ h => h) (Or.inl ⟨by rfl, fun u => by go_simp⟩) ?_
      simp only [Act.put, List.setIfInBounds_toArray, List.set_cons_zero, List.set_cons_succ]
      refine take_to (i := 10) (v := .int .u8 (dc : Int)) (some 24) rfl rfl (by kernel_rfl) (by kernel_rfl) (by kernel_rfl) (fun _ _ _ h => h) (Or.inl ⟨by rfl, fun u => by go_simp⟩) ?_
      simp only [Act.put, List.setIfInBounds_toArray, List.set_cons_zero, List.set_cons_succ]
      refine wpAny_ready (rs := [11]) (by kernel_rfl) (by simp) ?_
      refine AllReady.cons rfl (fun K hK => ?_) AllReady.nil
      rw [if_pos (by rfl)]
      go_simp
      refine hK _ _ ?_
      clear hK K
      have hb2 := HX.out.2.2
      have hown2 : (wr.drew.alloc (.cells #[.int .u8 (da : Int), .int .u8 (dc : Int)] 5)).ownsRow w.heap.size 5 1 u3 (2 * k) (nums (hexL ((bytes s).take k))) := HX.out.2.1.drew.alloc _
      refine wpAny_ready (rs := [12]) (by kernel_rfl) (by simp) ?_
      refine AllReady.cons rfl (fun K hK => ?_) AllReady.nil
      rw [if_pos (by rfl)]
      refine append_to (some 26) rfl (.tmp 14) (.tmp 25) 37 rfl w.heap.size 5 i0 (.int .u8 0) 1 1 Tryd.underlying37 hi hz0 hz1 hz2 rfl (by decide) u3 (2 * k) (nums (hexL ((bytes s).take k))) rfl hown2 ⟨wr.drew.heap.size, 0, none⟩ 2 2 [.int .u8 (da : Int), .int .u8 (dc : Int)] rfl rfl ?c1 ?c2 ?c3 ?c4 ?c5 ?_
      case c1 =>
        intro j u hu
        have := (Blk.new wr.drew 5 #[.int .u8 (da : Int), .int .u8 (dc : Int)]).cell (i := j) (v := u) (by simpa using hu)
        rw [Addr.add_mid, Nat.zero_add]
        exact this
      case c2 => intro u hu; simp only [List.mem_cons, List.not_mem_nil, or_false] at hu; rcases hu with rfl | rfl <;> rfl
      case c3 => unfold maxLen; omega
      case c4 => omega
      case c5 => have := hb2.size; show w.heap.size ≤ (wr.alloc _).heap.size; rw [size_alloc]; omega
      intro v' w1 hown' hgrow _
      refine hK _ _ ?_
      clear hK K
      have R : Aside (w1.ownsRow w.heap.size 5 1 v' (2 * (k + 1)) (nums (hexL ((bytes s).take (k + 1)))) ∧ Below w.heap.size w w1) := by
        rw [HX.out.1, ← nums_append]
        exact ⟨hown', ((hb2.alloc hb2.size _).drew).grown hgrow (by have := hb2.size; show w.heap.size ≤ (wr.alloc _).heap.size; rw [size_alloc]; omega) (fun g hg => (HX.out.2.1.lt g hg).1)⟩
      clear hown' hgrow hb2 HX g1 g2 hown2
      simp only [Act.put, List.setIfInBounds_toArray, List.set_cons_zero, List.set_cons_succ]
      refine take_to (i := 13) (v := v') (some 3) rfl rfl (by kernel_rfl) (by kernel_rfl) (by kernel_rfl) (fun _ _ _ h => h) (Or.inl ⟨by rfl, fun u => by go_simp⟩) ?_
      simp only [Act.put, List.setIfInBounds_toArray, List.set_cons_zero, List.set_cons_succ]
      refine wpAny_done (by kernel_rfl) ?_ _
      go_wp2
      go_roundg (s.size - (k + 1))
      case measure => omega
      case rel => exact ⟨k + 1, Nat.le_refl _, by omega, by go_num, R.out⟩
    · obtain rfl : k = s.size := by omega
      rcases hown.2 with ⟨rfl, h0⟩ | ⟨g, cap, cur, rfl, hbg, _⟩
      · have e : (bytes s) = [] := List.length_eq_zero_iff.1 (by rw [bytes_len]; omega)
        have hconv : (convert 37 9 (.slice none 0 0)).run Tryd.prog wr = .ok (.string (strOf (hexL (bytes s)))) wr := by
          rw [e]
          exact run_convert_bytes_nil wr 37 5 Tryd.underlying37 Tryd.underlying5 0 0 9 Tryd.underlying9
        have HB : Aside (Below w.heap.size w wr) := hbel
        clear hown hbel h0 e
        go_wp2
        go_ret
        exact ⟨rfl, HB.out⟩
      · have hconv := conv_own w.heap.size g cap (hexL ((bytes s).take s.size)) (2 * s.size) wr (by rw [hexL_len, List.length_take, bytes_len]; omega) hown
        rw [List.take_of_length_le (by rw [bytes_len]; omega)] at hconv
        have HB : Aside (Below w.heap.size w wr) := hbel
        clear hown hbel
        go_wp2
        go_ret
        exact ⟨rfl, HB.out⟩
end Go.Proofs.YtkkacngildnlkaaDoor
