import Derived.Test.YtjgmnbfadnlikaaP
set_option linter.unusedVariables false
set_option linter.unusedSimpArgs false
namespace Go.Proofs.Ytjgmnbfadnlikaa
open Go.RowKit
section
variable {w w' : World} {s : MS} {va : Tg → Value} {T : Nat → Option Tg}
/-- a page of the new segment is written. -/
theorem own_pg_set {n cr j : Nat} {ps : List (List Int)} {p p' : List Int} (h : Own w va T (nspec s va s.segs.length n cr ps)) (hj : ps[j]? = some p) (hv : w'.ownsRow 0 5 1 (va (4, s.segs.length, j)) p'.length (u8s p')) (hg : w.grownBy w' (va (4, s.segs.length, j)).ownBlock) :
    Own w' va T (nspec s va s.segs.length n cr (ps.set j p')) := by
  have hjl := (List.getElem?_eq_some_iff.1 hj).1
  have htag := h.tag (4, s.segs.length, j) ⟨5, 1, p.length, u8s p⟩ (by rw [nspec_page, hj]; rfl)
  refine h.set (t0 := (4, s.segs.length, j)) (p0 := ⟨5, 1, p'.length, u8s p'⟩) (.of_grown hg (fun b e => htag b e)) hv htag ?_ ?_
  · intro t ht q hq
    rw [← hq]
    by_cases h3 : t = (3, s.segs.length, 0)
    · subst h3; rw [nspec_row, nspec_row]
    · by_cases h4 : t.1 = 4 ∧ t.2.1 = s.segs.length
      · obtain ⟨a, b, i⟩ := t
        obtain ⟨e1, e2⟩ := h4
        simp only at e1 e2
        subst e1 e2
        rw [nspec_page, nspec_page, List.getElem?_set]
        have : j ≠ i := fun e => ht (by rw [e])
        simp [this]
      · rw [nspec_other _ _ _ _ _ _ h3 h4, nspec_other _ _ _ _ _ _ h3 h4]
  · intro q hq
    rw [nspec_page, List.getElem?_set] at hq
    simp [hjl] at hq
    exact hq.symm
def MS.add (s : MS) (q : Sg) : MS := { s with segs := s.segs ++ [q] }
/-- the new segment is appended, and laid in the object. -/
theorem mem_add {g n : Nat} {w1 : World} {q : Sg} {v' : Value} (h : Own w va T (nspec s va s.segs.length n n q.pages)) (hg0 : va (0, 0, 0) = .slice (some ⟨g, 0, none⟩) 1 1) (hok : (s.add q).ok) (hn : q.pages.length = n)
    (hv : w1.ownsRow 0 64 3 v' (s.segs.length + 1) (segRow va 0 s.segs ++ [va (3, s.segs.length, 0), .int .i64 (q.a : Int), .int .i64 (q.x : Int)])) (hg : w.grownBy w1 (va (2, 0, 0)).ownBlock) (hat : v'.ownBlock = (va (2, 0, 0)).ownBlock ∨ v'.ownBlock = some w.heap.size) :
    ∃ va' T', (w1.frozen? ⟨g, 1, none⟩ = false ∧ ∃ u, w1.cell? ⟨g, 1, none⟩ = some u) ∧ MemC (w1.setCell ⟨g, 1, none⟩ v') g (s.add q) va' T' ∧ ∀ b t, T' b = some t → T b ≠ none ∨ w.heap.size ≤ b := by
  obtain ⟨B, c, rfl⟩ : ∃ B c, v' = .slice (some ⟨B, 0, none⟩) (s.segs.length + 1) c := by
    rcases hv.2 with ⟨_, h0⟩ | ⟨B, c, _, e, _⟩
    · omega
    · exact ⟨B, c, e⟩
  have hBl := own_lt hv (b := B) rfl
  have hseg := nspec_other s va s.segs.length n n q.pages (t := (2, 0, 0)) (by simp) (by simp)
  have hobj := nspec_other s va s.segs.length n n q.pages (t := (0, 0, 0)) (by simp) (by simp)
  have htseg := h.tag (2, 0, 0) _ (by rw [hseg]; rfl)
  have hB : T B = some (2, 0, 0) ∨ w.heap.size ≤ B := by
    rcases hat with e | e
    · exact .inl (htseg B (by rw [← e]; rfl))
    · injection e with e; exact .inr (by rw [← e]; exact Nat.le_refl _)
  obtain ⟨vb, hvb⟩ : ∃ vb : Tg → Value, vb = fun t => if t = (2, 0, 0) then .slice (some ⟨B, 0, none⟩) (s.segs.length + 1) c else va t := ⟨_, rfl⟩
  have hvb2 : vb (2, 0, 0) = .slice (some ⟨B, 0, none⟩) (s.segs.length + 1) c := by rw [hvb]; simp
  have hvbo : ∀ t, t ≠ (2, 0, 0) → vb t = va t := fun t ht => by rw [hvb]; simp [ht]
  have e3 : ∀ i, vb (3, i, 0) = va (3, i, 0) := fun i => hvbo _ (by simp)
  have e4 : ∀ i j, vb (4, i, j) = va (4, i, j) := fun i j => hvbo _ (by simp)
  have erow : segRow vb 0 (s.segs ++ [q]) = segRow va 0 s.segs ++ [va (3, s.segs.length, 0), .int .i64 (q.a : Int), .int .i64 (q.x : Int)] := by
    rw [segRow_app, segRow_congr (va := vb) (vb := va) 0 s.segs (fun k _ => e3 _), Nat.zero_add, e3]
  have epg : ∀ i m, pgRow vb i m = pgRow va i m := fun i m => by unfold pgRow; congr 1; funext k; exact e4 i k
  -- the row first
  have h1 : Own w1 vb (fun b => if b = B then some (2, 0, 0) else T b) (fun t => if t = (0, 0, 0) then some ⟨62, 2, 1, [va (1, 0, 0), va (2, 0, 0)]⟩ else mspec (s.add q) vb t) := by
    have := h.put (sp' := fun t => if t = (0, 0, 0) then some ⟨62, 2, 1, [va (1, 0, 0), va (2, 0, 0)]⟩ else mspec (s.add q) vb t) (t0 := (2, 0, 0)) (p0 := ⟨64, 3, s.segs.length + 1, segRow va 0 s.segs ++ [va (3, s.segs.length, 0), .int .i64 (q.a : Int), .int .i64 (q.x : Int)]⟩) (B := B)
      (.of_grown hg (fun b e => .inr (htseg b e))) hB hBl hv (fun b e => by injection e with e; exact e.symm) ?_ ?_
    · rw [← hvb] at this; exact this
    · intro t ht p hp
      by_cases h0 : t = (0, 0, 0)
      · subst h0
        simp only [if_true] at hp
        rw [hobj]
        exact hp
      · simp only [if_neg h0] at hp
        rcases ok_below hp with rfl | rfl | rfl | ⟨i, hi, rfl⟩ | ⟨i, j, hi, rfl⟩
        · exact absurd rfl h0
        · rw [nspec_other _ _ _ _ _ _ (by simp) (by simp)]; exact hp
        · exact absurd rfl ht
        · simp only [MS.add, List.length_append, List.length_singleton] at hi
          by_cases hik : i = s.segs.length
          · subst hik
            rw [nspec_row]
            simp only [mspec, MS.add, List.getElem?_append_right (Nat.le_refl _), Nat.sub_self, List.getElem?_cons_zero, Option.map_some, if_true] at hp
            rw [← hp, partRow_full, hn, epg]
          · rw [nspec_other _ _ _ _ _ _ (by simp; omega) (by simp)]
            rw [← hp]
            simp only [mspec, MS.add, if_true]
            rw [List.getElem?_append_left (by omega)]
            congr 1
            funext g
            rw [epg]
        · simp only [MS.add, List.length_append, List.length_singleton] at hi
          by_cases hik : i = s.segs.length
          · subst hik
            rw [nspec_page]
            simp only [mspec, MS.add, List.getElem?_append_right (Nat.le_refl _), Nat.sub_self, List.getElem?_cons_zero, Option.bind_some] at hp
            exact hp
          · rw [nspec_other _ _ _ _ _ _ (by simp) (by simp; omega)]
            rw [← hp]
            simp only [mspec, MS.add]
            rw [List.getElem?_append_left (by omega)]
    · intro p hp
      simp only [mspec, MS.add, List.length_append, List.length_singleton, erow] at hp
      simp at hp
      exact hp.symm
  -- then the object
  obtain ⟨g', c', e, own, gr, hfz, hcell, _⟩ := own_set (h1.own (0, 0, 0) ⟨62, 2, 1, [va (1, 0, 0), va (2, 0, 0)]⟩ (by simp)) (i := 1) (by simp) (.slice (some ⟨B, 0, none⟩) (s.segs.length + 1) c)
  have hvb0 := hvbo (0, 0, 0) (by simp)
  rw [hvb0, hg0] at e
  injection e with e; injection e with e; injection e with e
  subst e
  have htag := h1.tag (0, 0, 0) ⟨62, 2, 1, [va (1, 0, 0), va (2, 0, 0)]⟩ (by simp)
  have hT := htag g (by rw [hvb0, hg0]; rfl)
  refine ⟨vb, _, ⟨hfz, _, hcell⟩, ⟨h1.set (t0 := (0, 0, 0)) (p0 := ⟨62, 2, 1, [va (1, 0, 0), .slice (some ⟨B, 0, none⟩) (s.segs.length + 1) c]⟩) (.of_grown gr (fun b e => by injection e with e; subst e; exact hT)) own htag ?_ ?_, by rw [hvb0]; exact hg0, hok⟩, ?_⟩
  · intro t ht p hp
    simp only [if_neg ht]; exact hp
  · intro p hp
    simp only [mspec] at hp
    simp at hp
    rw [← hp, hvbo (1, 0, 0) (by simp), hvb2]
  · intro b t hb
    by_cases e : b = B
    · subst e
      rcases hB with hB | hB
      · exact .inl (by rw [hB]; simp)
      · exact .inr hB
    · simp only [if_neg e] at hb
      exact .inl (by rw [hb]; simp)
/-- memory without segments. -/
theorem mem_start {g B1 : Nat} {ram : List Int} {v : Value} (hg : w.heap[g]? = some (.cells #[v, .slice none 0 0] 62 (0, 0))) (hv : w.ownsRow 0 5 1 v ram.length (u8s ram)) (hvb : ∀ b, v.ownBlock = some b → b = B1) (hB : B1 < w.heap.size) (hne : B1 ≠ g) (hl : ram.length ≤ 1024) (hb : Byts ram) :
    MemC w g ⟨ram, []⟩ (fun t => if t = (0, 0, 0) then .slice (some ⟨g, 0, none⟩) 1 1 else if t = (1, 0, 0) then v else .slice none 0 0) (fun b => if b = g then some (0, 0, 0) else if b = B1 then some (1, 0, 0) else none) := by
  refine ⟨⟨fun t p hp => ?_, fun t p hp b hb => ?_, fun b t hb => ?_⟩, by simp, ⟨hl, hb, by simp, by simp⟩⟩
  · rcases ok_below hp with rfl | rfl | rfl | ⟨i, hi, rfl⟩ | ⟨i, j, hi, rfl⟩
    · simp [mspec] at hp
      rw [← hp]
      simp only [if_true]
      exact obj_own (xs := [v, .slice none 0 0]) hg (Nat.zero_le _) rfl
    · simp [mspec] at hp
      rw [← hp]
      simpa using hv
    · simp [mspec, segRow] at hp
      rw [← hp]
      simp
      exact ⟨rfl, .inl ⟨rfl, rfl⟩⟩
    · simp at hi
    · simp at hi
  · rcases ok_below hp with rfl | rfl | rfl | ⟨i, hi, rfl⟩ | ⟨i, j, hi, rfl⟩
    · simp [Value.ownBlock] at hb
      simp [hb]
    · simp at hb
      have := hvb b hb
      subst this
      simp [hne]
    · simp [Value.ownBlock] at hb
    · simp at hi
    · simp at hi
  · by_cases e : b = g
    · subst e; exact blk_lt hg
    · by_cases e2 : b = B1
      · subst e2; exact hB
      · simp [e, e2] at hb
end
end Go.Proofs.Ytjgmnbfadnlikaa
