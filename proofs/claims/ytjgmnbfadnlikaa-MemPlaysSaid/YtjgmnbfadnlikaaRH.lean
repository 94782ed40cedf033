import Derived.Test.YtjgmnbfadnlikaaRG
set_option linter.unusedVariables false
set_option linter.unusedSimpArgs false
namespace Go.Proofs.Ytjgmnbfadnlikaa
open Go.RowKit
/-- memory s, and pages that are no segment of it yet. -/
def rn (s : MS) (va : Tg → Value) (ps : List (List Int)) (t : Tg) : Option Sp :=
  if t.1 = 3 ∧ t.2.1 = s.segs.length then (if t.2.2 = 0 then some ⟨37, 1, ps.length, pgRow va s.segs.length ps.length⟩ else none)
  else if t.1 = 4 ∧ t.2.1 = s.segs.length then (ps[t.2.2]?).map fun p => ⟨5, 1, p.length, u8s p⟩
  else rspec s va t
theorem rn_row (s : MS) (va : Tg → Value) (ps : List (List Int)) : rn s va ps (3, s.segs.length, 0) = some ⟨37, 1, ps.length, pgRow va s.segs.length ps.length⟩ := by simp [rn]
theorem rn_page (s : MS) (va : Tg → Value) (ps : List (List Int)) (j : Nat) : rn s va ps (4, s.segs.length, j) = (ps[j]?).map fun p => ⟨5, 1, p.length, u8s p⟩ := by simp [rn]
theorem rn_other (s : MS) (va : Tg → Value) (ps : List (List Int)) {t : Tg} (h3 : ¬ (t.1 = 3 ∧ t.2.1 = s.segs.length)) (h4 : ¬ (t.1 = 4 ∧ t.2.1 = s.segs.length)) : rn s va ps t = rspec s va t := by simp only [rn, if_neg h3, if_neg h4]
/-- tags that s itself doesn't have may change. -/
theorem rspec_congr {s : MS} {va vb : Tg → Value} (h1 : va (1, 0, 0) = vb (1, 0, 0)) (h2 : va (2, 0, 0) = vb (2, 0, 0)) (h5 : va (5, 0, 0) = vb (5, 0, 0)) (h3 : ∀ i, i < s.segs.length → va (3, i, 0) = vb (3, i, 0)) (h4 : ∀ i k, i < s.segs.length → va (4, i, k) = vb (4, i, k)) (t : Tg) : rspec s va t = rspec s vb t := by
  obtain ⟨x, y, z⟩ := t
  match x with
  | 0 => simp only [rspec, h1, h2, h5]
  | 1 => rfl
  | 2 => simp only [rspec]; rw [sgRow_congr h3]
  | 3 =>
    simp only [rspec, mspec]
    split
    · cases hq : s.segs[y]? with
      | none => rfl
      | some q =>
        simp only [Option.map_some]
        rw [pgRow_congr (fun k _ => h4 y k (List.getElem?_eq_some_iff.1 hq).1)]
    · rfl
  | 4 => rfl
  | 5 => rfl
  | n + 6 => rfl
theorem add_34 {s : MS} {va : Tg → Value} {q : Sg} (t : Tg) (ht : t.1 = 1 ∨ t.1 = 3 ∨ t.1 = 4) : mspec (s.add q) va t = rn s va q.pages t := by
  obtain ⟨x, y, z⟩ := t
  rcases ht with rfl | rfl | rfl
  · rfl
  · by_cases e : y = s.segs.length
    · subst e
      simp [mspec, rn, MS.add]
    · rw [rn_other _ _ _ (fun h => e h.2) (fun h => by have := h.1; simp at this)]
      simp only [rspec, mspec, MS.add]
      by_cases hl : y < s.segs.length
      · rw [List.getElem?_append_left hl]
      · rw [List.getElem?_eq_none (by simp; omega), List.getElem?_eq_none (by omega)]
  · by_cases e : y = s.segs.length
    · subst e
      simp [mspec, rn, MS.add]
    · rw [rn_other _ _ _ (fun h => by have := h.1; simp at this) (fun h => e h.2)]
      simp only [rspec, mspec, MS.add]
      by_cases hl : y < s.segs.length
      · rw [List.getElem?_append_left hl]
      · rw [List.getElem?_eq_none (by simp; omega), List.getElem?_eq_none (by omega)]
section
variable {w w1 w2 w3 : World} {s : MS} {va : Tg → Value} {T : Nat → Option Tg}
/-- no pages yet. -/
theorem rn_zero (h : Own w va T (rspec s va)) : Own w (fun t => if t = (3, s.segs.length, 0) then .slice none 0 0 else va t) T (rn s (fun t => if t = (3, s.segs.length, 0) then .slice none 0 0 else va t) []) := by
  have hsp : ∀ t, t ≠ (3, s.segs.length, 0) → ∀ p, rn s (fun t => if t = (3, s.segs.length, 0) then .slice none 0 0 else va t) [] t = some p → rspec s va t = some p := by
    intro t ht p hp
    by_cases h3 : t.1 = 3 ∧ t.2.1 = s.segs.length
    · obtain ⟨x, y, z⟩ := t
      obtain ⟨h1, h2⟩ := h3
      simp only at h1 h2
      subst h1 h2
      simp only [rn] at hp
      have hz : z ≠ 0 := fun e => ht (by rw [e])
      simp [hz] at hp
    · by_cases h4 : t.1 = 4 ∧ t.2.1 = s.segs.length
      · simp [rn, h4] at hp
      · rw [rn_other _ _ _ h3 h4, rspec_congr (vb := va) (by simp) (by simp) (by simp) (fun i hi => by simp; omega) (fun i k hi => by simp)] at hp
        exact hp
  refine ⟨fun t p hp => ?_, fun t p hp b hb => ?_, h.lt⟩
  · by_cases e : t = (3, s.segs.length, 0)
    · subst e
      rw [rn_row] at hp
      injection hp with hp
      subst hp
      simp only [if_true]
      exact ⟨rfl, .inl ⟨rfl, rfl⟩⟩
    · rw [if_neg e]
      exact h.own t p (hsp t e p hp)
  · by_cases e : t = (3, s.segs.length, 0)
    · rw [if_pos e] at hb; cases hb
    · rw [if_neg e] at hb
      exact h.tag t p (hsp t e p hp) b hb
/-- a page more. -/
theorem rn_step {ps : List (List Int)} {p : List Int} {pv v' : Value} {lo B B' k c : Nat} (hk : s.segs.length = k) (hc : ps.length = c) (h : Own w va T (rn s va ps)) (x : Ext w w1) (hv : w1.ownsRow w.heap.size 5 1 pv p.length (u8s p)) (hB : pv.ownBlock = some B) (x2 : Ext w1 w2)
    (hrow : w3.ownsRow 0 37 1 v' (c + 1) (pgRow va k c ++ [pv])) (hg : w2.grownBy w3 (va (3, k, 0)).ownBlock) (hB' : v'.ownBlock = some B') (hat : v'.ownBlock = (va (3, k, 0)).ownBlock ∨ v'.ownBlock = some w2.heap.size) (hT : ∀ b t, T b = some t → lo ≤ b) (hlo : lo ≤ w.heap.size) :
    ∃ va' T', Own w3 va' T' (rn s va' (ps ++ [p])) ∧ va' (3, k, 0) = v' ∧ va' (0, 0, 0) = va (0, 0, 0) ∧ ∀ b t, T' b = some t → lo ≤ b := by
  subst hk hc
  have O1 := (Own.lay h x (t0 := (4, s.segs.length, ps.length)) (p1 := ⟨5, 1, p.length, u8s p⟩) (B := B) (sp' := fun t => if t = (4, s.segs.length, ps.length) then some ⟨5, 1, p.length, u8s p⟩ else rn s va ps t) hv hB (fun t ht p hp => by simpa [ht] using hp) (fun p hp => by simp at hp; exact hp.symm)).ext x2
  have hB1 := (hv.lt B hB).1
  have s1 := x.size
  have s2 := x2.size
  obtain ⟨O2, hBB⟩ := Own.app O1 (t0 := (3, s.segs.length, 0)) (p0 := ⟨37, 1, ps.length, pgRow va s.segs.length ps.length⟩) (p1 := ⟨37, 1, ps.length + 1, pgRow va s.segs.length ps.length ++ [pv]⟩) (v := v') (B := B') (by simp [rn_row]) hrow (by simpa using hg) hB' (by simpa using hat)
    (sp' := rn s (fun t => if t = (3, s.segs.length, 0) then v' else if t = (4, s.segs.length, ps.length) then pv else va t) (ps ++ [p])) (by
      intro t ht y hy
      by_cases h4 : t.1 = 4 ∧ t.2.1 = s.segs.length
      · obtain ⟨a, b, j⟩ := t
        obtain ⟨e1, e2⟩ := h4
        simp only at e1 e2
        subst e1 e2
        rw [rn_page] at hy
        by_cases e : j = ps.length
        · subst e
          simp at hy
          simp [hy]
        · have hne : ¬ ((4, s.segs.length, j) : Tg) = (4, s.segs.length, ps.length) := fun h => e (by injection h with _ h; injection h)
          rw [if_neg hne, rn_page]
          by_cases hl : j < ps.length
          · rw [List.getElem?_append_left hl] at hy
            exact hy
          · rw [List.getElem?_eq_none (by simp; omega)] at hy
            cases hy
      · have hne : ¬ t = (4, s.segs.length, ps.length) := fun e => h4 (by rw [e]; exact ⟨rfl, rfl⟩)
        rw [if_neg hne]
        by_cases h3 : t.1 = 3 ∧ t.2.1 = s.segs.length
        · obtain ⟨a, b, z⟩ := t
          obtain ⟨e1, e2⟩ := h3
          simp only at e1 e2
          subst e1 e2
          simp only [rn] at hy
          have hz : z ≠ 0 := fun e => ht (by rw [e])
          simp [hz] at hy
        · rw [rn_other _ _ _ h3 h4] at hy ⊢
          rw [rspec_congr (vb := va) (by simp) (by simp) (by simp) (fun i hi => by simp; omega) (fun i k hi => by simp; omega)] at hy
          exact hy) (by
      intro y hy
      rw [rn_row] at hy
      injection hy with hy
      rw [← hy, List.length_append]
      simp only [List.length_cons, List.length_nil]
      rw [pgRow_succ, pgRow_congr (vb := va) (fun k hk => by simp; omega)]
      simp)
  refine ⟨_, _, O2, by simp, by simp, fun b t hb => ?_⟩
  have hT1 : ∀ b t, (if b = B then some (4, s.segs.length, ps.length) else T b) = some t → lo ≤ b := fun b t hb => by
    by_cases e : b = B
    · omega
    · rw [if_neg e] at hb; exact hT _ _ hb
  by_cases e : b = B'
  · rcases hBB with hBB | hBB
    · rw [e]; exact hT1 _ _ hBB
    · omega
  · simp only [if_neg e] at hb
    exact hT1 _ _ hb
/-- behind the pages' append: the segments' row, and the object's cell. -/
def rn2 (s : MS) (q : Sg) (va : Tg → Value) (t : Tg) : Option Sp := if t.1 = 5 then rspec s va t else rspec (s.add q) va t
theorem rn_seg {q : Sg} {g B : Nat} {v' sv pv : Value} {lo k : Nat} (hk : s.segs.length = k) (h : Own w va T (rn s va q.pages)) (hg0 : va (0, 0, 0) = .slice (some ⟨g, 0, none⟩) 1 1) (hsv : va (2, 0, 0) = sv) (hpv : va (3, k, 0) = pv) (x : Ext w w1)
    (hrow : w2.ownsRow 0 23 1 v' (k + 1) (sgRow va k ++ [pv])) (hg : w1.grownBy w2 sv.ownBlock) (hB : v'.ownBlock = some B) (hat : v'.ownBlock = sv.ownBlock ∨ v'.ownBlock = some w1.heap.size) (hT : ∀ b t, T b = some t → lo ≤ b) (hlo : lo ≤ w.heap.size) :
    (w2.frozen? ⟨g, 1, none⟩ = false ∧ ∃ u, w2.cell? ⟨g, 1, none⟩ = some u) ∧ lo ≤ g ∧ ∃ va' T', Own (w2.setCell ⟨g, 1, none⟩ v') va' T' (rn2 s q va') ∧ va' (0, 0, 0) = .slice (some ⟨g, 0, none⟩) 1 1 ∧ va' (5, 0, 0) = va (5, 0, 0) ∧ ∀ b t, T' b = some t → lo ≤ b := by
  subst hk hsv hpv
  have s1 := x.size
  have hadd : (s.add q).segs.length = s.segs.length + 1 := by simp [MS.add]
  obtain ⟨O1, hBB⟩ := Own.app (h.ext x) (t0 := (2, 0, 0)) (p0 := ⟨23, 1, s.segs.length, sgRow va s.segs.length⟩) (p1 := ⟨23, 1, s.segs.length + 1, sgRow va s.segs.length ++ [va (3, s.segs.length, 0)]⟩) (v := v') (B := B) (by rw [rn_other _ _ _ (by simp) (by simp)]; rfl) hrow hg hB hat
    (sp' := fun t => if t = (2, 0, 0) then some ⟨23, 1, s.segs.length + 1, sgRow va s.segs.length ++ [va (3, s.segs.length, 0)]⟩ else rn s va q.pages t) (fun t ht p hp => by simpa [ht] using hp) (fun p hp => by simp at hp; exact hp.symm)
  obtain ⟨g', c', e, O2, hf, hcell, hT2⟩ := Own.cell O1 (t0 := (0, 0, 0)) (p0 := ⟨68, 3, 1, [va (1, 0, 0), va (2, 0, 0), va (5, 0, 0)]⟩) (by rw [if_neg (by simp), rn_other _ _ _ (by simp) (by simp)]; rfl) (i := 1) (by simp only; omega) v'
    (sp' := rn2 s q (fun t => if t = (2, 0, 0) then v' else va t)) (by
      intro t ht y hy
      obtain ⟨a, b, c⟩ := t
      have hc34 : ∀ a : Nat, a = 1 ∨ a = 3 ∨ a = 4 → rn s (fun t => if t = (2, 0, 0) then v' else va t) q.pages (a, b, c) = rn s va q.pages (a, b, c) := by
        intro a ha
        unfold rn
        simp only
        split
        · split
          · rw [pgRow_congr (vb := va) (fun k hk => by simp)]
          · rfl
        · split
          · rfl
          · rw [rspec_m _ _ ha, rspec_m _ _ ha]
            rcases ha with rfl | rfl | rfl
            · rfl
            · simp only [mspec]
              split
              · cases hq : s.segs[b]? with
                | none => rfl
                | some q' =>
                  simp only [Option.map_some]
                  rw [pgRow_congr (vb := va) (fun k _ => by simp)]
              · rfl
            · rfl
      match a with
      | 0 =>
        simp only [rn2, rspec] at hy
        simp at hy
        obtain ⟨⟨rfl, rfl⟩, _⟩ := hy
        exact absurd rfl ht
      | 1 =>
        rw [if_neg (by simp), ← hc34 1 (by simp), ← add_34 (q := q) (1, b, c) (by simp)]
        exact hy
      | 2 =>
        simp only [rn2, rspec] at hy
        simp at hy
        obtain ⟨⟨rfl, rfl⟩, hy⟩ := hy
        rw [if_pos rfl, ← hy, hadd, sgRow_succ, sgRow_congr (va := fun t => if t = (2, 0, 0) then v' else va t) (vb := va) (fun i hi => by simp)]
        simp
      | 3 =>
        rw [if_neg (by simp), ← hc34 3 (by simp), ← add_34 (q := q) (3, b, c) (by simp)]
        exact hy
      | 4 =>
        rw [if_neg (by simp), ← hc34 4 (by simp), ← add_34 (q := q) (4, b, c) (by simp)]
        exact hy
      | 5 =>
        rw [if_neg (by simp), rn_other _ _ _ (by simp) (by simp)]
        exact hy
      | n + 6 => simp [rn2, rspec, mspec] at hy) (by
      intro y hy
      simp [rn2, rspec] at hy
      rw [← hy]
      simp)
  have e' : va (0, 0, 0) = .slice (some ⟨g', 0, none⟩) 1 c' := by simpa using e
  rw [hg0] at e'
  injection e' with e1 e2 e3
  injection e1 with e1
  injection e1 with e1
  subst e1
  have hgl : lo ≤ g := hT g (0, 0, 0) (h.tag (0, 0, 0) ⟨68, 3, 1, [va (1, 0, 0), va (2, 0, 0), va (5, 0, 0)]⟩ (by rw [rn_other _ _ _ (by simp) (by simp)]; rfl) g (by rw [hg0]; rfl))
  refine ⟨⟨hf, _, hcell⟩, hgl, _, _, O2, by simp; exact hg0, by simp, fun b t hb => ?_⟩
  rcases tag_cases hb with ⟨rfl, _⟩ | hb
  · rcases hBB with hBB | rfl
    · exact hT _ _ hBB
    · omega
  · exact hT _ _ hb
/-- and the row of who sees what. -/
theorem rn_see {q : Sg} {g B : Nat} {v' sv : Value} {lo k : Nat} (hk : s.segs.length = k) (h : Own w va T (rn2 s q va)) (ha : q.a = 0 ∧ q.x = 0) (hok : (s.add q).ok) (hg0 : va (0, 0, 0) = .slice (some ⟨g, 0, none⟩) 1 1) (hsv : va (5, 0, 0) = sv) (x : Ext w w1)
    (hrow : w2.ownsRow 0 56 2 v' (k + 1) (seeRow s.segs ++ [.int .i64 0, .int .i64 0])) (hg : w1.grownBy w2 sv.ownBlock) (hB : v'.ownBlock = some B) (hat : v'.ownBlock = sv.ownBlock ∨ v'.ownBlock = some w1.heap.size) (hT : ∀ b t, T b = some t → lo ≤ b) (hlo : lo ≤ w.heap.size) :
    (w2.frozen? ⟨g, 2, none⟩ = false ∧ ∃ u, w2.cell? ⟨g, 2, none⟩ = some u) ∧ ∃ va' T', MemR (w2.setCell ⟨g, 2, none⟩ v') g (s.add q) va' T' ∧ ∀ b t, T' b = some t → lo ≤ b := by
  subst hk hsv
  have s1 := x.size
  have hadd : (s.add q).segs.length = s.segs.length + 1 := by simp [MS.add]
  obtain ⟨O1, hBB⟩ := Own.app (h.ext x) (t0 := (5, 0, 0)) (p0 := ⟨56, 2, s.segs.length, seeRow s.segs⟩) (p1 := ⟨56, 2, s.segs.length + 1, seeRow s.segs ++ [.int .i64 0, .int .i64 0]⟩) (v := v') (B := B) rfl hrow hg hB hat
    (sp' := fun t => if t = (5, 0, 0) then some ⟨56, 2, s.segs.length + 1, seeRow s.segs ++ [.int .i64 0, .int .i64 0]⟩ else rn2 s q va t) (fun t ht p hp => by simpa [ht] using hp) (fun p hp => by simp at hp; exact hp.symm)
  obtain ⟨g', c', e, O2, hf, hcell, hT2⟩ := Own.cell O1 (t0 := (0, 0, 0)) (p0 := ⟨68, 3, 1, [va (1, 0, 0), va (2, 0, 0), va (5, 0, 0)]⟩) (by rw [if_neg (by simp)]; rfl) (i := 2) (by simp only; omega) v'
    (sp' := rspec (s.add q) (fun t => if t = (5, 0, 0) then v' else va t)) (by
      intro t ht y hy
      obtain ⟨a, b, c⟩ := t
      match a with
      | 0 =>
        simp only [rspec] at hy
        simp at hy
        obtain ⟨⟨rfl, rfl⟩, _⟩ := hy
        exact absurd rfl ht
      | 1 => exact hy
      | 2 =>
        rw [if_neg (by simp)]
        simp only [rspec] at hy
        simp at hy
        obtain ⟨⟨rfl, rfl⟩, hy⟩ := hy
        rw [sgRow_congr (vb := va) (fun i hi => by simp)] at hy
        exact congrArg some hy
      | 3 =>
        rw [if_neg (by simp)]
        simp only [rspec, mspec] at hy
        simp only [rn2, rspec, mspec]
        rw [if_neg (by simp)]
        split at hy
        · rename_i e
          rw [if_pos e]
          cases hq : (s.add q).segs[b]? with
          | none => rw [hq] at hy; cases hy
          | some q' =>
            rw [hq] at hy
            simp only [Option.map_some] at hy ⊢
            rw [pgRow_congr (vb := va) (fun k _ => by simp)] at hy
            exact hy
        · cases hy
      | 4 => exact hy
      | 5 =>
        simp only [rspec] at hy
        simp at hy
        obtain ⟨⟨rfl, rfl⟩, hy⟩ := hy
        rw [if_pos rfl, ← hy, hadd]
        simp [MS.add, seeRow_app, ha.1, ha.2]
      | n + 6 => simp [rspec, mspec] at hy) (by
      intro y hy
      simp [rspec] at hy
      rw [← hy]
      simp)
  have e' : va (0, 0, 0) = .slice (some ⟨g', 0, none⟩) 1 c' := by simpa using e
  rw [hg0] at e'
  injection e' with e1 e2 e3
  injection e1 with e1
  injection e1 with e1
  subst e1
  refine ⟨⟨hf, _, hcell⟩, _, _, ⟨O2, by simp; exact hg0, hok⟩, fun b t hb => ?_⟩
  rcases tag_cases hb with ⟨rfl, _⟩ | hb
  · rcases hBB with hBB | rfl
    · exact hT _ _ hBB
    · omega
  · exact hT _ _ hb
end
end Go.Proofs.Ytjgmnbfadnlikaa
