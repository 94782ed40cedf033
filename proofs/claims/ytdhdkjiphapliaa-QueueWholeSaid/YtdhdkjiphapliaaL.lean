import Derived.Test.YtdhdkjiphapliaaK
set_option linter.unusedVariables false
set_option linter.unusedSimpArgs false
namespace Go.Proofs.Ytdhdkjiphapliaa
open Go.RowKit
theorem Own.none {w : World} {va : Tg → Value} {T : Nat → Option Tg} {sp sp' : Tg → Option Sp} (h : Own w va T sp) {t0 : Tg} (hs : ∀ t, t ≠ t0 → ∀ p, sp' t = some p → sp t = some p) (h0 : ∀ p, sp' t0 = some p → p.n = 0 ∧ p.xs = []) :
    Own w (fun t => if t = t0 then .slice none 0 0 else va t) T sp' := by
  refine ⟨fun t p hp => ?_, fun t p hp b hb => ?_, h.lt⟩
  · by_cases e : t = t0
    · subst e
      obtain ⟨h1, h2⟩ := h0 p hp
      simp only [if_true, h1, h2]
      exact ⟨by simp, .inl ⟨rfl, rfl⟩⟩
    · rw [if_neg e]
      exact h.own t p (hs t e p hp)
  · by_cases e : t = t0
    · rw [if_pos e] at hb; cases hb
    · rw [if_neg e] at hb
      exact h.tag t p (hs t e p hp) b hb
section
variable {w : World} {ty : TypeId} {g : Nat} {s : QS} {rs : List Rp} {va : Tg → Value} {T : Nat → Option Tg}
theorem qu_nil (h : QuC w ty g s rs va T) : ∃ va', QuC (w.setCell ⟨g, 1, none⟩ (.slice none 0 0)) ty g { s with l := [] } [] va' T ∧ Kept (fun b => T b ≠ none) w (w.setCell ⟨g, 1, none⟩ (.slice none 0 0)) := by
  have O1 := Own.none h.O (t0 := (1, 0, 0)) (sp' := fun t => if t = (1, 0, 0) then some ⟨38, 3, 0, []⟩ else qspec ty s rs va t) (fun t ht p hp => by simpa [ht] using hp) (fun p hp => by simp at hp; subst hp; exact ⟨rfl, rfl⟩)
  obtain ⟨g', c', e, O2, hf, hcell, hT2⟩ := Own.cell O1 (t0 := (0, 0, 0)) (p0 := ⟨ty, 6, 1, qobj s (va (1, 0, 0))⟩) (by rw [if_neg (by simp)]; rfl) (i := 1) (by simp only; omega) (.slice none 0 0)
    (sp' := qspec ty { s with l := [] } [] (fun t => if t = (1, 0, 0) then .slice none 0 0 else va t)) (by
      rintro ⟨a, y, z⟩ ht p hp
      match a with
      | 0 =>
        simp only [qspec] at hp
        split at hp
        · rename_i e; exact absurd (by rw [e]) ht
        · cases hp
      | 1 =>
        simp only [qspec] at hp
        split at hp
        · rename_i e; rw [e, if_pos rfl]; simpa [rps] using hp
        · cases hp
      | n + 2 => exact hp) (by
      intro p hp
      simp [qspec] at hp
      rw [← hp]
      simp [qobj])
  have e' : va (0, 0, 0) = .slice (some ⟨g', 0, none⟩) 1 c' := by simpa using e
  rw [h.g0] at e'
  injection e' with e1 e2 e3
  injection e1 with e1
  injection e1 with e1
  subst e1
  exact ⟨_, ⟨O2, by simp; exact h.g0, rfl, ⟨h.ok.m1, h.ok.m2, Nat.zero_le _, h.ok.f⟩, by simp, by simp⟩, Kept.of_set _ (by rw [hT2]; simp)⟩
def QS.clear (s : QS) : QS := ⟨s.most, [], [false, false, false, false]⟩
theorem lost_all {l : List Bool} (h : l.length = 4) : (((l.set 0 false).set 1 false).set 2 false).set 3 false = [false, false, false, false] := by
  match l, h with
  | [a, b, c, d], _ => rfl
theorem qu_clear (h : QuC w ty g s rs va T) : ∃ va', QuC (((((w.setCell ⟨g, 1, none⟩ (.slice none 0 0)).setCell ⟨g, 2, none⟩ (.bool false)).setCell ⟨g, 3, none⟩ (.bool false)).setCell ⟨g, 4, none⟩ (.bool false)).setCell ⟨g, 5, none⟩ (.bool false)) ty g s.clear [] va' T ∧
    Kept (fun b => T b ≠ none) w (((((w.setCell ⟨g, 1, none⟩ (.slice none 0 0)).setCell ⟨g, 2, none⟩ (.bool false)).setCell ⟨g, 3, none⟩ (.bool false)).setCell ⟨g, 4, none⟩ (.bool false)).setCell ⟨g, 5, none⟩ (.bool false)) := by
  obtain ⟨va', h1, k1⟩ := qu_nil h
  obtain ⟨h2, k2⟩ := qu_lost h1 (j := 0) (by omega) false
  obtain ⟨h3, k3⟩ := qu_lost h2 (j := 1) (by omega) false
  obtain ⟨h4, k4⟩ := qu_lost h3 (j := 2) (by omega) false
  obtain ⟨h5, k5⟩ := qu_lost h4 (j := 3) (by omega) false
  have hl : ({ s with l := [], lost := (((s.lost.set 0 false).set 1 false).set 2 false).set 3 false } : QS) = s.clear := by unfold QS.clear; rw [lost_all h.ok.f]
  refine ⟨va', ?_, (((k1.trans' k2).trans' k3).trans' k4).trans' k5⟩
  rw [← hl]
  exact h5
end
set_option maxHeartbeats 1000000 in
theorem clear_any {w : World} {g : Nat} {s : QS} {rs : List Rp} {va : Tg → Value} {T : Nat → Option Tg} (h : QuC w 54 g s rs va T) : Calls Try.prog 17 #[.pointer (some ⟨g, 0, none⟩)] w fun e w' => e = .returned (.tuple #[]) ∧ QPost w w' 54 g s.clear rs T := by
  obtain ⟨A, c, e, _, _, k0, k1, kl, kf⟩ := h.cells
  have l0 := kl 0 (by omega)
  have l1 := kl 1 (by omega)
  have l2 := kl 2 (by omega)
  have l3 := kl 3 (by omega)
  have f1 := kf 1 (by omega)
  have f2 := kf 2 (by omega)
  have f3 := kf 3 (by omega)
  have f4 := kf 4 (by omega)
  have f5 := kf 5 (by omega)
  have HR := Lib.hid (qu_clear h)
  obtain ⟨b0, hb0⟩ : ∃ b, b = s.lost.getD 0 false := ⟨_, rfl⟩
  obtain ⟨b1, hb1⟩ : ∃ b, b = s.lost.getD 1 false := ⟨_, rfl⟩
  obtain ⟨b2, hb2⟩ : ∃ b, b = s.lost.getD 2 false := ⟨_, rfl⟩
  obtain ⟨b3, hb3⟩ : ∃ b, b = s.lost.getD 3 false := ⟨_, rfl⟩
  rw [← hb0] at l0
  rw [← hb1] at l1
  rw [← hb2] at l2
  rw [← hb3] at l3
  clear h e kl kf hb0 hb1 hb2 hb3 k0
  go_enter Try.func17, Try.ntmps17
  go_wp2
  go_end0
  obtain ⟨va', q, k⟩ := HR.out
  exact ⟨rfl, [], va', T, q, k, fun b t hb => .inl (by rw [hb]; simp), by intro r hr; cases hr⟩
end Go.Proofs.Ytdhdkjiphapliaa
