import Derived.Test.YtjgmnbfadnlikaaCC
import Derived.Test.YtjgmnbfadnlikaaZC
set_option linter.unusedVariables false
set_option linter.unusedSimpArgs false
namespace Go.Proofs.Ytjgmnbfadnlikaa
open Go.RowKit
theorem put_vbG {s : MS} (h : s.ok) {wh who : Int} {k k' tt : Nat} (b : List Int) (ha : k ≤ s.segs.length) : (s.put wh k tt b).vb who k' = if k' = k ∧ s.vt who k = s.vt wh k then splice (s.vb wh k) tt b else s.vb who k' := by
  have e2 : ∀ (s : MS) w, s.vb w 0 = s.ram := fun s w => by unfold MS.vb; rw [if_pos rfl]
  by_cases h0 : k = 0
  · subst h0
    have e : ∀ w, s.vt w 0 = (1, 0, 0) := fun w => by unfold MS.vt; rw [if_pos rfl]
    rw [e, e]
    have hp : s.put wh 0 tt b = { s with ram := splice s.ram tt b } := by unfold MS.put; rw [if_pos rfl]
    rw [hp]
    by_cases hk : k' = 0
    · subst hk
      rw [if_pos ⟨rfl, rfl⟩, e2, e2]
    · rw [if_neg (fun h => hk h.1)]
      unfold MS.vb
      rw [if_neg hk, if_neg hk]
  · obtain ⟨i, rfl⟩ : ∃ i, k = i + 1 := ⟨k - 1, by omega⟩
    obtain ⟨q, hq⟩ : ∃ q, s.segs[i]? = some q := ⟨_, List.getElem?_eq_getElem (by omega)⟩
    have e : ∀ w, s.vt w (i + 1) = (4, i, q.see w) := fun w => by unfold MS.vt; rw [if_neg (by omega), Nat.add_sub_cancel, hq]
    rw [e, e, put_seg hq]
    by_cases hk0 : k' = 0
    · subst hk0
      rw [if_neg (by omega), e2, e2]
      rfl
    · obtain ⟨j, rfl⟩ : ∃ j, k' = j + 1 := ⟨k' - 1, by omega⟩
      by_cases hj : j = i
      · subst hj
        rw [vb_seg (seg_get hq), vb_seg hq, vb_seg hq]
        have hs := (h.g q (List.mem_of_getElem? hq)).see wh
        have hsee : ({ q with pages := q.pages.set (q.see wh) (splice (q.pages.getD (q.see wh) []) tt b) } : Sg).see who = q.see who := rfl
        rw [hsee]
        simp only [List.getD_eq_getElem?_getD, List.getElem?_set]
        by_cases hc : q.see who = q.see wh
        · rw [hc, if_pos rfl, if_pos hs, if_pos ⟨trivial, rfl⟩]
          rfl
        · rw [if_neg (fun e => hc e.symm), if_neg (fun h => hc (by simpa using h.2))]
      · rw [if_neg (by omega)]
        unfold MS.vb
        rw [if_neg (by omega), if_neg (by omega)]
        simp only [Nat.add_sub_cancel, MS.seg, List.getElem?_set]
        rw [if_neg (fun e => hj e.symm)]
theorem vt_vb {s : MS} {w1 w2 : Int} {k : Nat} (h : s.vt w1 k = s.vt w2 k) : s.vb w1 k = s.vb w2 k := by
  unfold MS.vt at h
  unfold MS.vb
  by_cases h0 : k = 0
  · rw [if_pos h0, if_pos h0]
  · rw [if_neg h0, if_neg h0] at h ⊢
    cases hq : s.segs[k - 1]? with
    | none => rfl
    | some q => rw [hq] at h; simp at h; simp [h]
theorem rd_all {s : MS} {who : Int} (hw : who = 1 ∨ who = 2) {k n : Nat} (ha : k ≤ s.segs.length) (hn : (s.vb who k).length = n) : s.err who k 0 n = 0 ∧ s.rd who k 0 n = s.vb who k := by
  have e : s.err who k 0 n = 0 := err_zero hw ha (by omega)
  exact ⟨e, by rw [rd_seg e, List.drop_zero, List.take_of_length_le (by omega)]⟩
theorem wr_fit {s : MS} {wh : Int} {area at_ : Nat} {b : List Int} (h : s.wre wh area at_ b.length = 0) : (wh = 1 ∨ wh = 2) ∧ area ≤ s.segs.length ∧ at_ + b.length ≤ (s.vb wh area).length := by
  unfold MS.wre at h
  by_cases he : s.err wh area at_ b.length = 0
  · unfold MS.err at he
    split at he
    · omega
    · split at he
      · omega
      · split at he
        · omega
        · refine ⟨?_, ?_, ?_⟩
          · rename_i h1 _ _; exact Decidable.not_not.1 (fun h => h1 (.inl h))
          · omega
          · omega
  · rw [if_pos he] at h; exact absurd h he
theorem wr_same {s : MS} {wh who : Int} {area at_ k : Nat} {b : List Int} (h : s.ok) (hn : ¬ (s.wre wh area at_ b.length = 0 ∧ k = area ∧ s.vt who k = s.vt wh k)) : (s.wr wh area at_ b).vb who k = s.vb who k := by
  unfold MS.wr
  by_cases h0 : s.wre wh area at_ b.length = 0
  · rw [if_pos h0, put_vbG h b (wr_fit h0).2.1, if_neg (fun h => hn ⟨h0, h.1, by rw [h.1]; exact h.2⟩)]
  · rw [if_neg h0]
theorem wr_yes {s : MS} {wh who : Int} {at_ k : Nat} {b : List Int} (h : s.ok) (h0 : s.wre wh k at_ b.length = 0) (hv : s.vt who k = s.vt wh k) : (s.wr wh k at_ b).vb who k = splice (s.vb who k) at_ b ∧ at_ + b.length ≤ (s.vb who k).length := by
  unfold MS.wr
  rw [if_pos h0, put_vbG h b (wr_fit h0).2.1, if_pos ⟨rfl, hv⟩, vt_vb hv]
  exact ⟨rfl, (wr_fit h0).2.2⟩
/-- the pages that are seen, behind a write. -/
theorem wr_see {s : MS} (wh : Int) (area at_ : Nat) (b : List Int) {i : Nat} {q : Sg} (hq : s.segs[i]? = some q) : ∃ q', (s.wr wh area at_ b).segs[i]? = some q' ∧ q'.a = q.a ∧ q'.x = q.x := by
  unfold MS.wr
  split
  · unfold MS.put
    split
    · exact ⟨q, hq, rfl, rfl⟩
    · split
      · exact ⟨q, hq, rfl, rfl⟩
      · rename_i p hp
        by_cases e : area - 1 = i
        · subst e
          rw [hq] at hp
          injection hp with hp
          subst hp
          exact ⟨_, seg_get hq, rfl, rfl⟩
        · refine ⟨q, ?_, rfl, rfl⟩
          simp only [MS.seg, List.getElem?_set]
          rw [if_neg e]; exact hq
  · exact ⟨q, hq, rfl, rfl⟩
theorem vt_see {s : MS} {i : Nat} {q : Sg} (hq : s.segs[i]? = some q) (w1 w2 : Int) : s.vt w1 (i + 1) = s.vt w2 (i + 1) ↔ q.see w1 = q.see w2 := by
  unfold MS.vt
  rw [if_neg (by omega), if_neg (by omega), Nat.add_sub_cancel, hq]
  simp
theorem vt_zero (s : MS) (w1 w2 : Int) : s.vt w1 0 = s.vt w2 0 := by
  unfold MS.vt
  rw [if_pos rfl, if_pos rfl]
end Go.Proofs.Ytjgmnbfadnlikaa
