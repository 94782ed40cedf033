import Derived.Test.YtjgmnbfadnlikaaN
set_option linter.unusedVariables false
set_option linter.unusedSimpArgs false
namespace Go.Proofs.Ytjgmnbfadnlikaa
open Go.RowKit
/-- what is looked at of va. -/
theorem mspec_congr {s : MS} {va vb : Tg → Value} (h1 : va (1, 0, 0) = vb (1, 0, 0)) (h2 : va (2, 0, 0) = vb (2, 0, 0)) (h3 : ∀ i, i < s.segs.length → va (3, i, 0) = vb (3, i, 0)) (h4 : ∀ i k, i < s.segs.length → va (4, i, k) = vb (4, i, k)) (t : Tg) : mspec s va t = mspec s vb t := by
  obtain ⟨a, b, c⟩ := t
  match a with
  | 0 => simp only [mspec, h1, h2]
  | 1 => rfl
  | 2 => simp only [mspec]; rw [segRow_congr 0 s.segs (fun k hk => by simpa using h3 k hk)]
  | 3 =>
    simp only [mspec]
    rcases hq : s.segs[b]? with _ | q
    · rfl
    · have hb := (List.getElem?_eq_some_iff.1 hq).1
      simp only [Option.map_some]
      have : pgRow va b q.pages.length = pgRow vb b q.pages.length := by unfold pgRow; congr 1; funext k; exact h4 b k hb
      rw [this]
  | 4 => rfl
  | n + 5 => rfl
/-- a segment that is being made: its row (the first cr places), its pages. -/
def partRow (va : Tg → Value) (k n cr : Nat) : List Value := (List.range n).map fun j => if j < cr then va (4, k, j) else .slice none 0 0
def nspec (s : MS) (va : Tg → Value) (k n cr : Nat) (ps : List (List Int)) (t : Tg) : Option Sp :=
  if t = (3, k, 0) then some ⟨37, 1, n, partRow va k n cr⟩ else if t.1 = 4 ∧ t.2.1 = k then (ps[t.2.2]?).map fun p => ⟨5, 1, p.length, u8s p⟩ else mspec s va t
theorem partRow_zero (va : Tg → Value) (k n : Nat) : partRow va k n 0 = List.replicate n (.slice none 0 0) := by
  unfold partRow
  apply List.ext_getElem?
  intro j
  by_cases h : j < n <;> simp [h]
theorem partRow_full (va : Tg → Value) (k n : Nat) : partRow va k n n = pgRow va k n := by
  unfold partRow pgRow
  apply List.map_congr_left
  intro j hj
  simp at hj
  simp [hj]
theorem partRow_len (va : Tg → Value) (k n cr : Nat) : (partRow va k n cr).length = n := by simp [partRow]
theorem partRow_set (va : Tg → Value) (k n cr : Nat) : (partRow va k n cr).set cr (va (4, k, cr)) = partRow va k n (cr + 1) := by
  apply List.ext_getElem?
  intro j
  rw [List.getElem?_set]
  by_cases hj : j < n
  · by_cases e : cr = j
    · subst e; simp [partRow, hj]
    · have : (j < cr) ↔ (j < cr + 1) := by omega
      simp [partRow, hj, e, this]
  · by_cases e : cr = j
    · subst e; simp [partRow, hj]
    · simp [partRow, hj, e]
theorem partRow_congr {va vb : Tg → Value} {k n cr : Nat} (h : ∀ j, j < cr → va (4, k, j) = vb (4, k, j)) : partRow va k n cr = partRow vb k n cr := by
  unfold partRow
  apply List.map_congr_left
  intro j _
  by_cases e : j < cr
  · simp [e, h j e]
  · simp [e]
theorem nspec_row (s : MS) (va : Tg → Value) (k n cr : Nat) (ps : List (List Int)) : nspec s va k n cr ps (3, k, 0) = some ⟨37, 1, n, partRow va k n cr⟩ := by simp [nspec]
theorem nspec_page (s : MS) (va : Tg → Value) (k n cr : Nat) (ps : List (List Int)) (j : Nat) : nspec s va k n cr ps (4, k, j) = (ps[j]?).map fun p => ⟨5, 1, p.length, u8s p⟩ := by simp [nspec]
theorem nspec_other (s : MS) (va : Tg → Value) (k n cr : Nat) (ps : List (List Int)) {t : Tg} (h : t ≠ (3, k, 0)) (h2 : ¬ (t.1 = 4 ∧ t.2.1 = k)) : nspec s va k n cr ps t = mspec s va t := by simp only [nspec, if_neg h, if_neg h2]
section
variable {w w' : World} {s : MS} {va : Tg → Value} {T : Nat → Option Tg}
theorem ok_below {s : MS} {va : Tg → Value} {t : Tg} {p : Sp} (h : mspec s va t = some p) : t = (0, 0, 0) ∨ t = (1, 0, 0) ∨ t = (2, 0, 0) ∨ (∃ i, i < s.segs.length ∧ t = (3, i, 0)) ∨ ∃ i j, i < s.segs.length ∧ t = (4, i, j) := by
  obtain ⟨a, b, c⟩ := t
  match a with
  | 0 =>
    simp only [mspec] at h
    split at h
    · rename_i e; exact .inl (by rw [e])
    · cases h
  | 1 =>
    simp only [mspec] at h
    split at h
    · rename_i e; exact .inr (.inl (by rw [e]))
    · cases h
  | 2 =>
    simp only [mspec] at h
    split at h
    · rename_i e; exact .inr (.inr (.inl (by rw [e])))
    · cases h
  | 3 =>
    simp only [mspec] at h
    split at h
    · rename_i e
      subst e
      rcases hq : s.segs[b]? with _ | q
      · rw [hq] at h; cases h
      · exact .inr (.inr (.inr (.inl ⟨b, (List.getElem?_eq_some_iff.1 hq).1, rfl⟩)))
    · cases h
  | 4 =>
    simp only [mspec] at h
    rcases hq : s.segs[b]? with _ | q
    · rw [hq] at h; cases h
    · exact .inr (.inr (.inr (.inr ⟨b, c, (List.getElem?_eq_some_iff.1 hq).1, rfl⟩)))
  | n + 5 => cases h
/-- the row of a new segment is made. -/
theorem own_row0 (h : Own w va T (mspec s va)) {n P : Nat} {x : Ext w w'} (hP : w.heap.size ≤ P) (hl : P < w'.heap.size) (hv : w'.ownsRow 0 37 1 (.slice (some ⟨P, 0, none⟩) n n) n (List.replicate n (.slice none 0 0))) :
    Own w' (fun t => if t = (3, s.segs.length, 0) then .slice (some ⟨P, 0, none⟩) n n else va t) (fun b => if b = P then some (3, s.segs.length, 0) else T b) (nspec s (fun t => if t = (3, s.segs.length, 0) then .slice (some ⟨P, 0, none⟩) n n else va t) s.segs.length n 0 []) := by
  refine h.put (t0 := (3, s.segs.length, 0)) (p0 := ⟨37, 1, n, List.replicate n (.slice none 0 0)⟩) (.of_ext x) (.inr hP) hl hv (fun b e => by injection e with e; exact e.symm) ?_ ?_
  · intro t ht p hp
    by_cases h4 : t.1 = 4 ∧ t.2.1 = s.segs.length
    · simp only [nspec, if_neg ht, if_pos h4] at hp
      simp at hp
    · rw [nspec_other _ _ _ _ _ _ ht h4] at hp
      rw [← hp]
      refine mspec_congr ?_ ?_ ?_ ?_ t
      · simp
      · simp
      · intro i hi
        rw [if_neg (by simp; omega)]
      · intro i k hi; simp
  · intro p hp
    rw [nspec_row] at hp
    injection hp with hp
    rw [← hp, partRow_zero]
/-- a page is made. -/
theorem own_page {n c : Nat} {ps : List (List Int)} (h : Own w va T (nspec s va s.segs.length n c ps)) {B : Nat} {v : Value} {p : List Int} (hc : ps.length = c) (x : Ext w w') (hB : w.heap.size ≤ B) (hl : B < w'.heap.size) (hv : w'.ownsRow 0 5 1 v p.length (u8s p)) (hvb : ∀ b, v.ownBlock = some b → b = B) :
    Own w' (fun t => if t = (4, s.segs.length, c) then v else va t) (fun b => if b = B then some (4, s.segs.length, c) else T b) (nspec s (fun t => if t = (4, s.segs.length, c) then v else va t) s.segs.length n c (ps ++ [p])) := by
  refine h.put (t0 := (4, s.segs.length, c)) (p0 := ⟨5, 1, p.length, u8s p⟩) (.of_ext x) (.inr hB) hl hv hvb ?_ ?_
  · intro t ht q hq
    by_cases h3 : t = (3, s.segs.length, 0)
    · subst h3
      rw [nspec_row] at hq ⊢
      rw [← hq]
      congr 2
      refine partRow_congr (fun j hj => ?_)
      rw [if_neg (by simp; omega)]
    · by_cases h4 : t.1 = 4 ∧ t.2.1 = s.segs.length
      · obtain ⟨a, b, j⟩ := t
        obtain ⟨e1, e2⟩ := h4
        simp only at e1 e2
        subst e1 e2
        rw [nspec_page] at hq ⊢
        have hj : j ≠ c := fun e => ht (by rw [e])
        rw [← hq]
        congr 1
        by_cases hjc : j < c
        · rw [List.getElem?_append_left (by omega)]
        · rw [List.getElem?_eq_none (by omega), List.getElem?_eq_none (by simp; omega)]
      · rw [nspec_other _ _ _ _ _ _ h3 h4] at hq ⊢
        rw [← hq]
        refine mspec_congr ?_ ?_ ?_ ?_ t
        · simp
        · simp
        · intro i hi; simp
        · intro i k hi; rw [if_neg (by simp; omega)]
  · intro q hq
    rw [nspec_page, List.getElem?_append_right (by omega)] at hq
    simp [hc] at hq
    exact hq.symm
/-- and laid in its row. -/
theorem own_lay {n c : Nat} {ps : List (List Int)} (h : Own w va T (nspec s va s.segs.length n c ps)) {P : Nat} (hva : va (3, s.segs.length, 0) = .slice (some ⟨P, 0, none⟩) n n) (hc : c < n) :
    Own (w.setCell ⟨P, c, none⟩ (va (4, s.segs.length, c))) va T (nspec s va s.segs.length n (c + 1) ps) := by
  obtain ⟨g, cc, e, own, gr, _, _, _⟩ := own_set (h.own _ _ (nspec_row s va s.segs.length n c ps)) (i := c) (by simp; omega) (va (4, s.segs.length, c))
  rw [hva] at e
  injection e with e; injection e with e; injection e with e
  subst e
  have htag := h.tag _ _ (nspec_row s va s.segs.length n c ps)
  have hT := htag P (by rw [hva]; rfl)
  refine h.set (t0 := (3, s.segs.length, 0)) (p0 := ⟨37, 1, n, partRow va s.segs.length n (c + 1)⟩) (.of_grown gr (fun b e => by injection e with e; subst e; exact hT)) (by rw [← partRow_set]; exact own) htag ?_ ?_
  · intro t ht q hq
    rw [← hq]
    simp only [nspec, if_neg ht]
  · intro q hq
    rw [nspec_row] at hq
    injection hq with hq
    exact hq.symm
end
end Go.Proofs.Ytjgmnbfadnlikaa
