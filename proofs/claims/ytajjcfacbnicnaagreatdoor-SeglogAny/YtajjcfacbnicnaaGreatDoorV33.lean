/-
  YtajjcfacbnicnaaGreatDoor: the texts K4, one behind the other.
-/
import Derived.Test.YtajjcfacbnicnaaGreatDoorV32
import Derived.Test.YtajjcfacbnicnaaGreatDoorV28
import Derived.WalkKit
import Derived.WalkSpells
import Derived.WalkLawsBesides
import Derived.Deep.LoopGhost
import Derived.Laws.Externs
import Derived.Below
import Derived.BigQuiet
import Derived.Deep.RegionWith
import Derived.OwnWalk
import Derived.Maps.AppendAt
import Derived.WalkSmall
/-
  Records that are appended one by one; a byte that is turned.
-/
namespace Go.Proofs.YtajjcfacbnicnaaGreatDoor
open Go.RowKit
set_option maxRecDepth 100000
theorem power_on {s : Dk.St} (h1 : s.down = false) (h2 : s.fused = false) : s.power = true := by
  unfold Dk.St.power
  rw [h1, h2]
  rfl
theorem Inv.free {s : Dk.St} {G : List Seg} (h : Inv s G) (hG : G.length ≤ 13) {tn wanted : Int} (h1 : 1 ≤ tn) (h2 : tn ≤ 99999) (hw : (s.total : Int) + wanted ≤ s.room) : lRefused s tn wanted = 0 := by
  have hc := h.cnt
  unfold lRefused
  rw [if_neg (fun hh => nmL_empty.1 hh ⟨h1, h2⟩), if_neg (fun hh => by omega), if_neg]
  unfold Dk.St.free
  omega
/-- A record is appended, in whatever segment. -/
theorem app_step {s : Dk.St} {G : List Seg} (h : Inv s G) (hd : s.down = false) (hu : s.fused = false) {x : ByteArray} (hx : x.size ≤ 2000) (m rest : Int) (hG : G.length ≤ 13) (hr : (s.total : Int) + ((x.size : Int) + 10 + wi rest) ≤ s.room) :
    ∃ G', (lAppend s 1 m x rest).1 = 0 ∧ Inv (lAppend s 1 m x rest).2 G' ∧ G'.flatten = G.flatten ++ [x.data.toList] ∧ (lAppend s 1 m x rest).2.total = s.total + (x.size + 10) ∧ (lAppend s 1 m x rest).2.room = s.room ∧
      (lAppend s 1 m x rest).2.down = false ∧ (lAppend s 1 m x rest).2.fused = false ∧ G'.length ≤ G.length + 1 := by
  have hp := power_on hd hu
  have hz := fr_size hx
  have hwi : 0 ≤ wi rest := by unfold wi; omega
  have hl := h.last
  have hx' : ¬ 2000 < x.size := by omega
  have NR : ∀ tn : Int, 1 ≤ tn → tn ≤ 99999 → lRefused s tn ((fr x).size + wi rest) = 0 := fun tn h1 h2 => h.free hG h1 h2 (by rw [hz]; push_cast; omega)
  rcases List.eq_nil_or_concat G with rfl | ⟨D, g, rfl⟩
  · have hl1 : lLast s 1 = 1 := by rw [hl]; rfl
    have htx := (h.txno (n := 1) (by omega) (by omega) (by simp)).1
    have hpl : lPlace s m (lLast s 1) (fr x).size = lLast s 1 := by
      unfold lPlace
      rw [hl1, htx, if_neg (fun hh => by have : (⟨#[]⟩ : ByteArray).size = 0 := rfl; omega)]
    have he := lapp_same (m := m) hx' (by rw [hpl, hl1]; exact NR 1 (by omega) (by omega)) hpl
    rw [he, hl1]
    obtain ⟨b1, b2, b3, b4, b5, b6⟩ := h.new hp (fun f hf => by
      have := h.cnt
      have : s.files = [] := List.eq_nil_of_length_eq_zero this
      rw [this] at hf
      cases hf) hx (by simp) (by omega)
    exact ⟨_, b1, b2, by simp, b3, b4, b5, b6.trans hu, by simp⟩
  · have hlen : (D ++ [g]).length = D.length + 1 := by simp
    rw [List.concat_eq_append] at h hG hl ⊢
    have hl1 : lLast s 1 = (D.length : Int) + 1 := by rw [hl, hlen]; omega
    by_cases hpl : lPlace s m (lLast s 1) (fr x).size = lLast s 1
    · have he := lapp_same (m := m) hx' (by rw [hpl, hl1]; exact NR _ (by omega) (by omega)) hpl
      rw [he, hl1]
      obtain ⟨b1, b2, b3, b4, b5, b6⟩ := h.more hp hx (by omega)
      exact ⟨_, b1, b2, by simp, b3, b4, b5, b6.trans hu, by simp⟩
    · have hpl2 : lPlace s m (lLast s 1) (fr x).size = (D.length : Int) + 2 := by
        unfold lPlace at hpl ⊢
        split
        · rw [hl1]; omega
        · rename_i hh
          rw [if_neg hh] at hpl
          exact absurd rfl hpl
      obtain ⟨c1, c2, c3, c4, c5, c6, c7⟩ := h.sync hp
      have he := lapp_next (m := m) hx' (by rw [hpl2]; exact NR _ (by omega) (by omega)) hpl (by rw [hl1]; exact c1)
      rw [he, hpl2, hl1]
      have e2 : (D.length : Int) + 2 = ((D ++ [g]).length : Int) + 1 := by rw [hlen]; push_cast; omega
      rw [e2]
      obtain ⟨b1, b2, b3, b4, b5, b6⟩ := c2.new (power_on c6 (c7.trans hu)) c3 hx (by omega) (by rw [c4, c5]; omega)
      exact ⟨_, b1, b2, by simp, by rw [b3, c4], b4.trans c5, b5, b6.trans (c7.trans hu), by simp⟩
/-- Sync of a whole log. -/
theorem syn_step {s : Dk.St} {G : List Seg} (h : Inv s G) (hd : s.down = false) (hu : s.fused = false) :
    (lSync s 1).1 = 0 ∧ Inv (lSync s 1).2 G ∧ (∀ f ∈ (lSync s 1).2.files, f.sure = f.bytes.length) ∧ (lSync s 1).2.down = false ∧ (lSync s 1).2.fused = false := by
  have hl := h.last
  unfold lSync
  rcases List.eq_nil_or_concat G with rfl | ⟨D, g, rfl⟩
  · have hl1 : lLast s 1 = 1 := by rw [hl]; rfl
    have htx := (h.txno (n := 1) (by omega) (by omega) (by simp)).2
    rw [hl1, htx]
    simp only [Bool.false_eq_true, if_false]
    refine ⟨trivial, h, fun f hf => ?_, hd, hu⟩
    have := h.cnt
    have : s.files = [] := List.eq_nil_of_length_eq_zero this
    rw [this] at hf
    cases hf
  · have hlen : (D ++ [g]).length = D.length + 1 := by simp
    rw [List.concat_eq_append] at h hl ⊢
    have hl1 : lLast s 1 = (D.length : Int) + 1 := by rw [hl, hlen]; omega
    have htx := (h.tx (i := D.length) (by omega)).2
    rw [hl1, htx]
    simp only [if_true]
    obtain ⟨c1, c2, c3, c4, c5, c6, c7⟩ := h.sync (power_on hd hu)
    exact ⟨c1, c2, c3, c6, c7.trans hu⟩
/-- In which frame a byte lies. -/
theorem frame_of (l : Seg) (a : Nat) : ∀ n, n ≤ l.length → a < Fm.Fr.en l n → ∃ k, k < n ∧ Fm.Fr.en l k ≤ a ∧ a < Fm.Fr.en l (k + 1)
  | 0, _, h => by simp [Fm.Fr.en, Fm.Fr.mks] at h
  | n + 1, hn, h => by
    by_cases h1 : a < Fm.Fr.en l n
    · obtain ⟨k, h2, h3, h4⟩ := frame_of l a n (by omega) h1
      exact ⟨k, by omega, h3, h4⟩
    · exact ⟨n, by omega, by omega, h⟩
theorem rot_seg {l : Seg} (h : ∀ x ∈ l, x.length ≤ 2000) {a : Nat} (ha : a < (Fm.Fr.mks l).length) {c : UInt8} (hc : (Fm.Fr.mks l)[a]? ≠ some c) : (Fm.Fr.spx ((Fm.Fr.mks l).set a c) [] 0).2.2 = 4 := by
  obtain ⟨k, h1, h2, h3⟩ := frame_of l a l.length (Nat.le_refl _) (by rw [Fm.Fr.en_all]; exact ha)
  rw [Fm.Fr.split_rot l h a k c h1 h2 h3 hc]
/-- A log that is whole but for one segment: that one's fault is told. -/
theorem open_rot {s : Dk.St} {G : List Seg} (hok : Dk.Ok s) (hn : ∀ t, t ∈ s.names ↔ ∃ i, i < G.length ∧ t = nmL ((i : Int) + 1)) (hk : G.length ≤ 16) (hs : ∀ g ∈ G, ∀ x ∈ g, x.length ≤ 2000) {i : Nat} (hi : i < G.length)
    (hf : ∀ j (h : j < G.length), j ≠ i → ∃ f ∈ s.files, f.name = nmL ((j : Int) + 1) ∧ f.bytes = Fm.Fr.mks G[j]) {nb : List UInt8} (hb : ∃ f ∈ s.files, f.name = nmL ((i : Int) + 1) ∧ f.bytes = nb) (h4 : (Fm.Fr.spx nb [] 0).2.2 = 4) :
    lOpen s 1 = (.error 4, s) := by
  have hrow : nums s.names 1 = row G.length := by
    refine rise_mem_eq ((all_lt hok.rising.nodup).sublist List.filter_sublist) (row_lt _) fun n => ?_
    rw [nums_mem, row_mem, hn]
    constructor
    · rintro ⟨h1, _, h3, j, hj, e⟩
      have := nmL_inj e h1 h3
      omega
    · rintro ⟨h1, h2⟩
      exact ⟨h1, h1, by omega, (n - 1).toNat, by omega, by rw [show (((n - 1).toNat : Nat) : Int) + 1 = n by omega]⟩
  have hrb : rowB 1 (row G.length) = true := by
    rw [rowB_iff]
    intro j hj
    simp only [row, List.getElem_map, List.getElem_range]
    omega
  have key : ∀ (t j : Nat), i - j = t → j ≤ i → ∀ acc, recs s ((row G.length).drop j) acc = ([], 4, s) := by
    intro t
    induction t with
    | zero =>
      intro j h1 h2 acc
      obtain rfl : j = i := by omega
      have hlt : j < (row G.length).length := by rw [row_len]; exact hi
      rw [List.drop_eq_getElem_cons hlt]
      have e : (row G.length)[j] = (j : Int) + 1 := by simp [row]
      rw [e]
      obtain ⟨f, k1, k2, k3⟩ := hb
      have hsp : (spl s ((j : Int) + 1)).2.2 = 4 := by
        unfold spl
        rw [(tx_of hok k1 k2).1, k3, Fm.bs_list]
        exact h4
      rw [recs_bad (by omega) (fun hh => by omega), hsp]
      rfl
    | succ t ih =>
      intro j h1 h2 acc
      have hlt : j < (row G.length).length := by rw [row_len]; omega
      rw [List.drop_eq_getElem_cons hlt]
      have e : (row G.length)[j] = (j : Int) + 1 := by simp [row]
      rw [e]
      obtain ⟨f, k1, k2, k3⟩ := hf j (by omega) (by omega)
      have hsp : (spl s ((j : Int) + 1)).2.2 = 0 := by
        unfold spl
        rw [(tx_of hok k1 k2).1, k3, Fm.bs_list, Fm.Fr.split_mks _ (hs _ (List.getElem_mem _))]
      rw [recs_go hsp]
      exact ih (j + 1) (by omega) (by omega) _
  unfold lOpen
  rw [if_neg (fun hh => nmL_empty.1 hh ⟨by omega, by omega⟩), hrow, hrb, if_neg (by decide)]
  have := key (i - 0) 0 rfl (Nat.zero_le _) []
  rw [List.drop_zero] at this
  rw [this, if_neg (show ¬ ((4 : Int) = 0) by decide)]
end Go.Proofs.YtajjcfacbnicnaaGreatDoor
