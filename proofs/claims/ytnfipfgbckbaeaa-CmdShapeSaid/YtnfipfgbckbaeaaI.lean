import Derived.Test.YtnfipfgbckbaeaaH
set_option linter.unusedVariables false
namespace Go.Proofs.Ytnfipfgbckbaeaa
open Go.RowKit
theorem errOf_cons (c : Int) (r : List Int) : errOf (c :: r) = if (!ok c) = true then some 1 else if r.length < sm c then some 5 else if (gr c && decide ((r.drop (sm c)).length < 4)) = true then some 5 else if (r3 c r).length < nn c r then some 5 else none := rfl
theorem bad_parts {c : Int} {al : List Int} {W : Int} {n : Nat} (h : badC c al W n = false) : ok c = true ∧ behB (sm c) al = false ∧ (gr c = false → W = 0) ∧ n = nbC c (al.getD 0 0) := by
  unfold badC at h
  simp [-List.getD_eq_getElem?_getD] at h
  obtain ⟨⟨⟨h1, h2⟩, h3⟩, h4⟩ := h
  exact ⟨h1, h2, h3, by omega⟩
theorem bad_of {c : Int} {al : List Int} {W : Int} {n : Nat} (h1 : ok c = true) (h2 : behB (sm c) al = false) (h3 : gr c = false → W = 0) (h4 : n = nbC c (al.getD 0 0)) : badC c al W n = false := by
  unfold badC
  rw [h1, h2, h4]
  cases hg : gr c
  · simp [h3 hg]
  · simp
theorem beh_pad {al : List Int} {s : Nat} (hl : al.length = 5) (hs : s ≤ 5) (h : behB s al = false) : al.take s ++ List.replicate (5 - s) 0 = al := by
  have : al.drop s = List.replicate (5 - s) 0 := by
    refine List.eq_replicate_iff.2 ⟨by simp [hl], fun x hx => ?_⟩
    unfold behB at h
    rw [List.any_eq_false] at h
    simpa using h x hx
  rw [← this, List.take_append_drop]
theorem pad_beh {xs : List Int} {s : Nat} (hl : xs.length = s) : behB s (xs ++ List.replicate (5 - s) 0) = false := by
  subst hl
  unfold behB
  rw [List.drop_left, List.any_eq_false]
  intro x hx
  have := List.eq_of_mem_replicate hx
  simp [this]
theorem back4 (W : Int) (z : List Int) (h0 : 0 ≤ W) (h1 : W < 4294967296) : takeTo (putB W 4 true ++ z) 4 true 4 = W := by
  rw [takeTo_app _ _ _ _ _ (by rw [putB_len]; omega), back_eq W 4 true rfl h0 (by omega)]
  show W % 4294967296 = W
  omega
theorem fore4 (xs : List Int) (hb : Byts xs) (h : 4 ≤ xs.length) : putB (takeTo xs 4 true 4) 4 true = xs.take 4 := by
  match xs, h with
  | x0 :: x1 :: x2 :: x3 :: r, _ =>
    obtain ⟨a0, b0⟩ := hb x0 (by simp)
    obtain ⟨a1, b1⟩ := hb x1 (by simp)
    obtain ⟨a2, b2⟩ := hb x2 (by simp)
    obtain ⟨a3, b3⟩ := hb x3 (by simp)
    simp [putB, takeTo, shf, List.range, List.range.loop]
    omega
theorem nbC_le (c a : Int) : nbC c a ≤ 7 := nb_le _ _ _ (mo_le c)
theorem put_cons (c : Int) (al : List Int) (W : Int) (bs y : List Int) : putL c al W bs ++ y = c :: (al.take (sm c) ++ ((if gr c then putB W 4 true else []) ++ (bs ++ y))) := by simp [putL]
theorem put_take {c W : Int} {al bs : List Int} {n : Nat} (y : List Int) (hl : al.length = 5) (W0 : 0 ≤ W) (W1 : W < 4294967296) (hn : bs.length = n) (h : badC c al W n = false) :
    ∃ r, putL c al W bs ++ y = c :: r ∧ errOf (c :: r) = none ∧ al5 c r = al ∧ wOf c r = W ∧ nn c r = n ∧ (r3 c r).take n = bs := by
  obtain ⟨h1, h2, h3, h4⟩ := bad_parts h
  have s5 := sm_le c
  have e1 : (al.take (sm c)).length = sm c := by simp; omega
  refine ⟨_, put_cons c al W bs y, ?_⟩
  generalize hG : (if gr c then putB W 4 true else []) = G
  have hal : al5 c (al.take (sm c) ++ (G ++ (bs ++ y))) = al := by
    unfold al5
    rw [List.take_append_of_le_length (by omega), List.take_take, Nat.min_self]
    exact beh_pad hl s5 h2
  have hd : (al.take (sm c) ++ (G ++ (bs ++ y))).drop (sm c) = G ++ (bs ++ y) := by rw [List.drop_append_of_le_length (by omega), List.drop_of_length_le (by omega)]; rfl
  have hGl : G.length = if gr c then 4 else 0 := by subst hG; split <;> simp [putB_len]
  have hr3 : r3 c (al.take (sm c) ++ (G ++ (bs ++ y))) = bs ++ y := by
    unfold r3
    rw [hd]
    cases hg : gr c
    · rw [hg] at hGl; simp at hGl; subst hGl; rfl
    · rw [hg] at hGl; simp at hGl
      simp only [if_true]
      rw [List.drop_append_of_le_length (by omega), List.drop_of_length_le (by omega)]; rfl
  have hnn : nn c (al.take (sm c) ++ (G ++ (bs ++ y))) = n := by unfold nn; rw [hal, h4]
  refine ⟨?_, hal, ?_, hnn, ?_⟩
  · rw [errOf_cons]
    rw [h1, if_neg (by simp), if_neg (by simp; omega), hd, hr3, hnn, if_neg, if_neg (by simp; omega)]
    intro hx
    simp at hx
    obtain ⟨hg, hx⟩ := hx
    rw [hg] at hGl; simp at hGl; omega
  · unfold wOf
    rw [hd]
    cases hg : gr c
    · simp [h3 hg]
    · rw [hg] at hG; simp only [if_true] at hG ⊢; subst hG; exact back4 W _ W0 W1
  · rw [hr3, List.take_append_of_le_length (by omega), List.take_of_length_le (by omega)]
theorem take_put {c : Int} {r : List Int} (hb : Byts r) (h : errOf (c :: r) = none) :
    badC c (al5 c r) (wOf c r) (nn c r) = false ∧ putN c (nn c r) ≤ r.length + 1 ∧ putL c (al5 c r) (wOf c r) ((r3 c r).take (nn c r)) = (c :: r).take (putN c (nn c r)) := by
  rw [errOf_cons] at h
  by_cases h1 : ok c = true
  · rw [h1, if_neg (by simp)] at h
    by_cases h2 : r.length < sm c
    · rw [if_pos h2] at h; cases h
    · rw [if_neg h2] at h
      by_cases h3 : (gr c && decide ((r.drop (sm c)).length < 4)) = true
      · rw [if_pos h3] at h; cases h
      · rw [if_neg h3] at h
        by_cases h4 : (r3 c r).length < nn c r
        · rw [if_pos h4] at h; cases h
        · have s5 := sm_le c
          have e1 : (r.take (sm c)).length = sm c := by simp; omega
          have ht : (al5 c r).take (sm c) = r.take (sm c) := by unfold al5; rw [List.take_append_of_le_length (by omega), List.take_take, Nat.min_self]
          refine ⟨bad_of h1 (pad_beh e1) (fun hg => by simp [wOf, hg]) rfl, ?_, ?_⟩
          · cases hg : gr c <;> simp [hg, putN, r3] at h3 h4 ⊢ <;> omega
          · unfold putL putN
            rw [ht]
            generalize nn c r = N at *
            cases hg : gr c
            · simp only [hg, r3, Bool.false_eq_true, if_false]
              rw [show 1 + sm c + 0 + N = (sm c + N) + 1 by omega, List.take_succ_cons, List.take_add]
              simp
            · simp [hg] at h3
              have hbd : Byts (r.drop (sm c)) := fun b hb' => hb b (List.mem_of_mem_drop hb')
              have hw : putB (wOf c r) 4 true = (r.drop (sm c)).take 4 := by rw [wOf_t hg]; exact fore4 _ hbd (by simp; omega)
              simp only [hg, if_true, r3, hw]
              rw [show 1 + sm c + 4 + N = (sm c + (4 + N)) + 1 by omega, List.take_succ_cons, List.take_add, List.take_add (i := 4)]
              simp
  · rw [if_pos (by simpa using h1)] at h; cases h
theorem putN_le {c W : Int} {al : List Int} {n : Nat} (h : badC c al W n = false) (h0 : 0 ≤ c) : 1 ≤ putN c n ∧ putN c n ≤ 8 := by
  obtain ⟨h1, h2, h3, h4⟩ := bad_parts h
  refine ⟨by unfold putN; omega, ?_⟩
  have hc : 1 ≤ c ∧ c ≤ 26 := by simpa [ok] using h1
  have hm : n ≤ mo c := by
    subst h4
    unfold nbC nb
    split <;> omega
  obtain ⟨k, rfl⟩ := Int.eq_ofNat_of_zero_le h0
  have : ∀ k : Nat, k < 27 → 1 + sm (k : Int) + (if gr (k : Int) then 4 else 0) + mo (k : Int) ≤ 8 := by decide
  have := this k (by omega)
  unfold putN
  omega
theorem putL_len {c W : Int} {al bs : List Int} {n : Nat} (hl : al.length = 5) (hn : bs.length = n) : (putL c al W bs).length = putN c n := by
  have s5 := sm_le c
  unfold putL putN
  cases gr c <;> simp [putB_len] <;> omega
theorem put_cut {c W : Int} {al bs : List Int} {n : Nat} (hl : al.length = 5) (hn : bs.length = n) (h : badC c al W n = false) (k : Nat) (hk : k < putN c n) : errOf ((putL c al W bs).take k) = some 5 := by
  obtain ⟨h1, h2, h3, h4⟩ := bad_parts h
  have s5 := sm_le c
  have e1 : (al.take (sm c)).length = sm c := by simp; omega
  rcases k with _ | k
  · rfl
  · have hx : (putL c al W bs).take (k + 1) = c :: (al.take (sm c) ++ ((if gr c then putB W 4 true else []) ++ bs)).take k := by
      have := put_cons c al W bs []
      rw [List.append_nil, List.append_nil] at this
      rw [this]; rfl
    rw [hx]
    generalize hG : (if gr c then putB W 4 true else []) = G
    have hGl : G.length = if gr c then 4 else 0 := by subst hG; split <;> simp [putB_len]
    have hkN : k < sm c + (if gr c then 4 else 0) + n := by unfold putN at hk; omega
    have hlen : ((al.take (sm c) ++ (G ++ bs)).take k).length = k := by simp; omega
    rw [errOf_cons]
    rw [h1, if_neg (by simp), hlen]
    by_cases hs : k < sm c
    · rw [if_pos hs]
    · rw [if_neg hs]
      have hal : al5 c ((al.take (sm c) ++ (G ++ bs)).take k) = al := by
        unfold al5
        rw [List.take_take, show min (sm c) k = sm c by omega, List.take_append_of_le_length (by omega), List.take_take, Nat.min_self]
        exact beh_pad hl s5 h2
      have hnn : nn c ((al.take (sm c) ++ (G ++ bs)).take k) = n := by unfold nn; rw [hal, h4]
      have hdl : (((al.take (sm c) ++ (G ++ bs)).take k).drop (sm c)).length = k - sm c := by rw [List.length_drop, hlen]
      rw [hdl, hnn]
      by_cases hg4 : (gr c && decide (k - sm c < 4)) = true
      · rw [if_pos hg4]
      · rw [if_neg hg4, if_pos]
        unfold r3
        cases hg : gr c
        · simp only [hg, Bool.false_eq_true, if_false] at hkN ⊢; rw [hdl]; omega
        · simp [hg] at hkN hg4 ⊢; omega
theorem errOf_byts {bs : List Int} (h : errOf bs = none) : ∃ c r, bs = c :: r := by
  cases bs with
  | nil => cases h
  | cons c r => exact ⟨c, r, rfl⟩
end Go.Proofs.Ytnfipfgbckbaeaa
