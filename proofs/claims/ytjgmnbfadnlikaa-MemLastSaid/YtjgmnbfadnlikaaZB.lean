import Derived.Test.YtjgmnbfadnlikaaY
set_option linter.unusedVariables false
set_option linter.unusedSimpArgs false
namespace Go.Proofs.Ytjgmnbfadnlikaa
open Go.RowKit
/-- of the same shape, and the first pages are as they were. -/
structure Like (s0 s : MS) : Prop where
  ram : s.ram.length = s0.ram.length
  n : s.segs.length = s0.segs.length
  sg : ∀ (i : Nat) (q0 : Sg), s0.segs[i]? = some q0 → ∃ q, s.segs[i]? = some q ∧ q.len = q0.len ∧ q.pages.length = q0.pages.length ∧ q.pages[0]? = q0.pages[0]?
theorem Like.refl (s : MS) : Like s s := ⟨rfl, rfl, fun i q h => ⟨q, h, rfl, rfl, rfl⟩⟩
theorem Like.trans {a b c : MS} (h : Like a b) (k : Like b c) : Like a c := ⟨k.ram.trans h.ram, k.n.trans h.n, fun i q hq => by
  obtain ⟨q1, h1, a1, a2, a3⟩ := h.sg i q hq
  obtain ⟨q2, h2, b1, b2, b3⟩ := k.sg i q1 h1
  exact ⟨q2, h2, b1.trans a1, b2.trans a2, b3.trans a3⟩⟩
theorem like_seg {s : MS} {i : Nat} {q q' : Sg} (hq : s.segs[i]? = some q) (h1 : q'.len = q.len) (h2 : q'.pages.length = q.pages.length) (h3 : q'.pages[0]? = q.pages[0]?) : Like s (s.seg i q') := by
  have hil := (List.getElem?_eq_some_iff.1 hq).1
  refine ⟨rfl, by simp [MS.seg], fun j q0 hj => ?_⟩
  by_cases e : i = j
  · subst e
    rw [hq] at hj
    injection hj with hj
    subst hj
    exact ⟨q', seg_get hq, h1, h2, h3⟩
  · exact ⟨q0, by simp only [MS.seg, List.getElem?_set, if_neg e]; exact hj, rfl, rfl, rfl⟩
theorem like_put {s : MS} (h : s.ok) (who : Int) (area at_ : Nat) (bs : List Int) (ha : area ≤ s.segs.length) (hfit : at_ + bs.length ≤ (s.vb who area).length) (hm : s.may who area = true ∨ bs.length = 0) : Like s (s.put who area at_ bs) := by
  by_cases h0 : area = 0
  · subst h0
    have e : s.vb who 0 = s.ram := by unfold MS.vb; rw [if_pos rfl]
    unfold MS.put
    rw [if_pos rfl]
    rw [e] at hfit
    exact ⟨length_splice _ _ _ hfit, rfl, fun i q h => ⟨q, h, rfl, rfl, rfl⟩⟩
  · obtain ⟨k, rfl⟩ : ∃ k, area = k + 1 := ⟨area - 1, by omega⟩
    obtain ⟨q, hq⟩ : ∃ q, s.segs[k]? = some q := ⟨_, List.getElem?_eq_getElem (by omega)⟩
    rw [put_seg hq]
    refine like_seg hq rfl (by simp) ?_
    simp only [List.getElem?_set]
    by_cases e : q.see who = 0
    · have hlen : bs.length = 0 := by
        rcases hm with hm | hm
        · rw [may_sg hq, e] at hm; simp at hm
        · exact hm
      have hb : bs = [] := List.eq_nil_of_length_eq_zero hlen
      have hs := (h.g q (List.mem_of_getElem? hq)).see who
      rw [if_pos e, e] at *
      rw [if_pos (by omega), hb]
      rw [List.getElem?_eq_getElem (by omega)]
      simp [splice, List.getD_eq_getElem?_getD, List.getElem?_eq_getElem (show 0 < q.pages.length by omega)]
    · rw [if_neg e]
theorem like_wr {s : MS} (h : s.ok) (who : Int) (area at_ : Nat) (bs : List Int) : Like s (s.wr who area at_ bs) := by
  unfold MS.wr
  by_cases hw : s.wre who area at_ bs.length = 0
  · rw [if_pos hw]
    unfold MS.wre at hw
    by_cases he : s.err who area at_ bs.length = 0
    · rw [if_neg (fun h => h he)] at hw
      have hm : s.may who area = true ∨ bs.length = 0 := by
        by_cases hc : s.may who area = false ∧ 0 < bs.length
        · rw [if_pos hc] at hw; omega
        · by_cases h0 : bs.length = 0
          · exact .inr h0
          · left
            rcases e : s.may who area with _ | _
            · exact absurd ⟨e, by omega⟩ hc
            · rfl
      unfold MS.err at he
      split at he
      · omega
      · split at he
        · omega
        · split at he
          · omega
          · exact like_put h who area at_ bs (by omega) (by omega) hm
    · rw [if_pos he] at hw; exact absurd hw he
  · rw [if_neg hw]; exact Like.refl s
theorem like_st (s : MS) (who seg page : Int) : Like s (s.st who seg page).1 := by
  unfold MS.st
  split
  · exact Like.refl s
  · split
    · exact Like.refl s
    · rename_i q hq
      split
      · exact like_seg hq rfl rfl rfl
      · exact Like.refl s
theorem like_cp (s : MS) (seg a b : Int) : Like s (s.cp seg a b).1 := by
  unfold MS.cp
  split
  · exact Like.refl s
  · rename_i q hq
    split
    · rename_i hc
      split
      · exact Like.refl s
      · rename_i hb
        refine like_seg hq rfl (by simp [Sg.cp]) ?_
        simp only [Sg.cp, List.getElem?_set]
        rw [if_neg (by omega)]
    · exact Like.refl s
theorem like_act {s : MS} (h : s.ok) (a : Ac) : Like s (s.act a) := by
  unfold MS.act
  split
  · exact Like.refl s
  · split
    · exact like_wr h ..
    · split
      · exact like_st ..
      · split
        · exact like_cp ..
        · exact Like.refl s
end Go.Proofs.Ytjgmnbfadnlikaa
