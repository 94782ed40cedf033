import Derived.Test.YtnbcmlphnllgeaaGB
import Derived.Deep.CutBlock
set_option linter.unusedVariables false
set_option linter.unusedSimpArgs false
namespace Go.Proofs.Ytnbcmlphnllgeaa
open Go.RowKit
section
variable {w w1 w2 w3 : World} {g : Nat} {ls : List Gl} {lv : Value} {T : Nat → Option Nat} {i : Nat} {x x' : Gl} {S : Nat → Prop}
/-- a list has other rows: what the Gather is then. -/
def GPost (w w' : World) (g : Nat) (ls' : List Gl) (lv : Value) (T : Nat → Option Nat) (T' : Nat → Option Nat) : Prop :=
  GaC w' g ls' lv T' ∧ Kept (fun b => T b ≠ none) w w' ∧ ∀ b, T' b ≠ none → T b ≠ none ∨ w.heap.size ≤ b
theorem GPost.same (h : GaC w g ls lv T) (x : Ext w w1) : GPost w w1 g ls lv T T := ⟨h.ext x, .of_ext x, fun _ h => .inl h⟩
theorem GPost.trans {T1 T2 : Nat → Option Nat} {l1 l2 : List Gl} (h : GPost w w1 g l1 lv T T1) (k : GPost w1 w2 g l2 lv T1 T2) : GPost w w2 g l2 lv T T2 :=
  ⟨k.1, h.2.1.trans k.2.1 (fun b hb h1 => (h.2.2 b h1).elim id (fun h => by omega)), fun b hb => (k.2.2 b hb).elim (h.2.2 b) (fun h1 => .inr (Nat.le_trans h.2.1.size h1))⟩
theorem ga_re (h : GaC w g ls lv T) (hi : ls[i]? = some x) (k : Kept (fun b => T b = some (i + 2)) w w2) (hBL : BL w2 S x'.v x'.els) (hS : ∀ b, S b → (T b = some (i + 2) ∨ w.heap.size ≤ b) ∧ b < w2.heap.size)
    (k3 : Kept (fun b => T b = some 1) w2 w3) (own3 : w3.ownsRow 0 69 4 lv ls.length (gls (ls.set i x'))) (ht : x'.tables = x.tables) (he : x'.els.length ≤ 100000) :
    ∃ T', GPost w w3 g (ls.set i x') lv T T' ∧ (∀ b, T b = some (i + 2) → ¬ S b → T' b = none) ∧ ∀ b, S b → T' b = some (i + 2) := by
  classical
  have hil : i < ls.length := (List.getElem?_eq_some_iff.1 hi).1
  have s2 := k.size
  have s3 := k3.size
  have hSn : ∀ b t, T b = some t → t ≠ i + 2 → ¬ S b := fun b t e hne hs => by
    rcases (hS b hs).1 with h1 | h1
    · rw [e] at h1; injection h1 with h1; exact hne h1
    · have := h.lt b t e; omega
  refine ⟨fun b => if S b then some (i + 2) else if T b = some (i + 2) then none else T b, ⟨⟨?_, ?_, by rw [List.length_set]; exact own3, ?_, ?_, ?_, ?_, by rw [List.length_set]; exact h.len⟩, ?_, ?_⟩, ?_, ?_⟩
  · have h1 := k.blk h.obj (by rw [h.g0]; simp)
    exact k3.blk h1 (by rw [h.g0]; simp)
  · rw [if_neg (hSn g 0 h.g0 (by omega)), if_neg (by rw [h.g0]; simp), h.g0]
  · intro b e
    have hr := h.rT b e
    rw [if_neg (hSn b 1 hr (by omega)), if_neg (by rw [hr]; simp), hr]
  · intro j y hj
    by_cases hji : j = i
    · subst hji
      rw [List.getElem?_set_self hil] at hj
      injection hj with hj
      subst hj
      refine (hBL.kept k3 (fun b hb e => ?_)).mono (fun b _ hb => by rw [if_pos hb])
      rcases (hS b hb).1 with h1 | h1
      · rw [e] at h1; injection h1 with h1; omega
      · have := h.lt b 1 e; omega
    · rw [List.getElem?_set_ne (fun e => hji e.symm)] at hj
      refine (((h.bl j y hj).kept k (fun b hb e => by rw [hb] at e; injection e with e; omega)).kept k3 (fun b hb e => by rw [hb] at e; injection e with e; omega)).mono (fun b _ hb => ?_)
      rw [if_neg (hSn b (j + 2) hb (by omega)), if_neg (by rw [hb]; simp; omega), hb]
  · intro b t e
    by_cases hs : S b
    · have := (hS b hs).2; omega
    · rw [if_neg hs] at e
      by_cases h1 : T b = some (i + 2)
      · rw [if_pos h1] at e; cases e
      · rw [if_neg h1] at e; have := h.lt b t e; omega
  · intro y hy
    rcases List.mem_or_eq_of_mem_set hy with hy | hy
    · exact h.tb y hy
    · subst hy; exact ⟨by rw [ht]; exact (h.tb x (List.mem_of_getElem? hi)).1, he⟩
  · exact (k.mono (G := fun b => T b ≠ none) (fun b _ e => by rw [e]; simp)).trans' (k3.mono (fun b _ e => by rw [e]; simp))
  · intro b hb
    by_cases hs : S b
    · rcases (hS b hs).1 with h1 | h1
      · exact .inl (by rw [h1]; simp)
      · exact .inr h1
    · simp only [if_neg hs] at hb
      by_cases h1 : T b = some (i + 2)
      · exact .inl (by rw [h1]; simp)
      · simp only [if_neg h1] at hb; exact .inl hb
  · intro b e hs
    simp only [if_neg hs, if_pos e]
  · intro b hs
    simp only [if_pos hs]
/-- a row's fields are written: lost, came. -/
theorem row_set (h : w.ownsRow 0 69 4 lv ls.length (gls ls)) (hi : ls[i]? = some x) {rb n c : Nat} (hl : lv = .slice (some ⟨rb, 0, none⟩) n c) (x' : Gl) {r : Nat} (u : Value) (hr : r < 4) (hv : x'.vals = x.vals.set r u) :
    (w.setCell ⟨rb, i * 4 + r, none⟩ u).ownsRow 0 69 4 lv ls.length (gls (ls.set i x')) ∧ w.frozen? ⟨rb, i * 4 + r, none⟩ = false ∧ w.cell? ⟨rb, i * 4 + r, none⟩ = x.vals[r]? := by
  have hil : i < ls.length := (List.getElem?_eq_some_iff.1 hi).1
  obtain ⟨g1, c1, e, own, _, f, k, _⟩ := own_set h (i := i * 4 + r) (by omega) u
  rw [hl] at e
  injection e with e _ _
  injection e with e
  injection e with e
  subst e
  rw [gls_set hi hr hv] at own
  refine ⟨own, f, k.trans ?_⟩
  have hr4 : r < x.vals.length := by rw [gl_len]; exact hr
  obtain ⟨u0, hu0⟩ : ∃ u0, x.vals[r]? = some u0 := ⟨_, List.getElem?_eq_getElem hr4⟩
  rw [hu0]
  exact flat_at gl_len ls i x r u0 hi hu0
end
end Go.Proofs.Ytnbcmlphnllgeaa
