/-
  OwnP: places of Own: a row grown by append, a cell written, a new place.
-/
import Derived.Test.YtnbcmlphnllgeaaOwn
import Derived.Test.YtnbcmlphnllgeaaRow
set_option linter.unusedVariables false
namespace Go.Proofs.Ytnbcmlphnllgeaa
open Go.RowKit
section
variable {w w1 : World} {va : Tg → Value} {T : Nat → Option Tg} {sp sp' : Tg → Option Sp} {t0 : Tg} {p0 p1 : Sp} {v : Value} {B : Nat}
/-- a place's row, as append leaves it. -/
theorem Own.app (h : Own w va T sp) (hp0 : sp t0 = some p0) (hv : w1.ownsRow 0 p1.e p1.size v p1.n p1.xs) (hg : w.grownBy w1 (va t0).ownBlock) (hb : v.ownBlock = some B)
    (hat : v.ownBlock = (va t0).ownBlock ∨ v.ownBlock = some w.heap.size) (hs : ∀ t, t ≠ t0 → ∀ p, sp' t = some p → sp t = some p) (h0 : ∀ p, sp' t0 = some p → p = p1) :
    Own w1 (fun t => if t = t0 then v else va t) (fun b => if b = B then some t0 else T b) sp' ∧ (T B = some t0 ∨ B = w.heap.size) := by
  have hB : T B = some t0 ∨ B = w.heap.size := by
    rcases hat with e | e
    · exact .inl (h.tag t0 p0 hp0 B (by rw [← e, hb]))
    · rw [hb] at e; injection e with e; exact .inr e
  exact ⟨Own.put h (.of_grown hg (fun b e => .inr (h.tag t0 p0 hp0 b e))) (hB.imp id (fun e => by omega)) (own_lt hv hb) hv (fun b e => by rw [hb] at e; injection e with e; exact e.symm) hs h0, hB⟩
/-- a new place. -/
theorem Own.lay (h : Own w va T sp) (x : Ext w w1) (hv : w1.ownsRow w.heap.size p1.e p1.size v p1.n p1.xs) (hb : v.ownBlock = some B) (hs : ∀ t, t ≠ t0 → ∀ p, sp' t = some p → sp t = some p) (h0 : ∀ p, sp' t0 = some p → p = p1) :
    Own w1 (fun t => if t = t0 then v else va t) (fun b => if b = B then some t0 else T b) sp' :=
  Own.put h (.of_ext x) (.inr (hv.lt B hb).1) (hv.lt B hb).2 (own_base hv (Nat.zero_le _)) (fun b e => by rw [hb] at e; injection e with e; exact e.symm) hs h0
/-- a cell of a place is written. -/
theorem Own.cell (h : Own w va T sp) (hp0 : sp t0 = some p0) {i : Nat} (hi : i < p0.n * p0.size) (u : Value) (hs : ∀ t, t ≠ t0 → ∀ p, sp' t = some p → sp t = some p) (h0 : ∀ p, sp' t0 = some p → p = { p0 with xs := p0.xs.set i u }) :
    ∃ g c, va t0 = .slice (some ⟨g, 0, none⟩) p0.n c ∧ Own (w.setCell ⟨g, i, none⟩ u) va T sp' ∧ w.frozen? ⟨g, i, none⟩ = false ∧ w.cell? ⟨g, i, none⟩ = p0.xs[i]? ∧ T g = some t0 := by
  obtain ⟨g, c, e, own, gr, hf, hc, _⟩ := own_set (h.own t0 p0 hp0) hi u
  have ht : ∀ b, (va t0).ownBlock = some b → T b = some t0 := h.tag t0 p0 hp0
  have hT := ht g (by rw [e]; rfl)
  exact ⟨g, c, e, Own.set h (p0 := { p0 with xs := p0.xs.set i u }) (.of_grown gr (fun b e => by injection e with e; subst e; exact hT)) own ht hs h0, hf, hc, hT⟩
/-- the tags behind a place laid or grown. -/
theorem tag_cases {b : Nat} {t : Tg} (h : (fun b => if b = B then some t0 else T b) b = some t) : (b = B ∧ t = t0) ∨ T b = some t := by
  simp only at h
  by_cases e : b = B
  · rw [if_pos e] at h; injection h with h; exact .inl ⟨e, h.symm⟩
  · rw [if_neg e] at h; exact .inr h
theorem tag_none {b : Nat} (h : (fun b => if b = B then some t0 else T b) b = none) : b ≠ B ∧ T b = none := by
  simp only at h
  by_cases e : b = B
  · rw [if_pos e] at h; cases h
  · rw [if_neg e] at h; exact ⟨e, h⟩
theorem tag_mk {b : Nat} (hB : b ≠ B) (h : T b = none) : (fun b => if b = B then some t0 else T b) b = none := by
  simp only [if_neg hB, h]
end
end Go.Proofs.Ytnbcmlphnllgeaa
