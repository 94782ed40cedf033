import Derived.Test.YtnjiajogbadadaaN
set_option linter.unusedVariables false
namespace Go.Proofs.Ytnjiajogbadadaa
open Go.RowKit
theorem one_facts {r : Int} (h : r = 1 ∨ r = 4 ∨ r = 8) : oneR r = true ∧ LSt.new r = ⟨r, r, [], 0, 0, []⟩ ∧ bits .and .u8 r r ≠ 0 := by
  rcases h with rfl | rfl | rfl <;> (refine ⟨rfl, by kernel_rfl, ?_⟩; intro h; revert h; decide +kernel)
def LSt.at (r : Int) (ys : List Int) (t : Nat) : LSt := ⟨r, r, ys, r, t, []⟩
theorem p_first {r : Int} {ys : List Int} {m : Nat} (h : r = 1 ∨ r = 4 ∨ r = 8) (hl : ys.length = m) (h1 : 1 ≤ m) (h2 : m ≤ 20) :
    (LSt.new r).doSeed 0 r ys = ⟨LSt.at r ys (min m 6), m, ys.take (min m 6), 0⟩ := by
  obtain ⟨a, b, c⟩ := one_facts h
  rw [b]
  have e : ys ≠ [] := by intro e; subst e; simp at hl; omega
  simp [LSt.doSeed, a, c, e, hl, show ¬ 20 < m by omega, LSt.part, LSt.at, LSt.clear, partN]
  omega
theorem p_next {r : Int} {ys : List Int} {m t : Nat} (hl : ys.length = m) (hk : t < m) (x : Int) :
    (LSt.at r ys t).doSeed 1 x [] = ⟨LSt.at r ys (t + min (m - t) 6), ((m - t : Nat) : Int), (ys.drop t).take (min (m - t) 6), 0⟩ := by
  simp [LSt.doSeed, LSt.part, LSt.at, hl, partN, show ¬ t = m by omega]
theorem p_end {r : Int} {ys : List Int} {m : Nat} (hl : ys.length = m) (x : Int) :
    (LSt.at r ys m).doSeed 1 x [] = ⟨LSt.at r ys m, 0, [], 90⟩ := by
  simp [LSt.doSeed, LSt.at, hl]
theorem p_clear {s : LSt} (x : Int) : s.clear.doSeed 1 x [] = ⟨s.clear, 0, [], 90⟩ := by simp [LSt.doSeed, LSt.clear]
theorem p_unl1 {r : Int} {ys : List Int} {t : Nat} (left : Int) (b : List Int) (h : t < ys.length) : (LSt.at r ys t).doUnlock left b = ⟨(LSt.at r ys t).clear, 90⟩ := by
  simp [LSt.doUnlock, mayC, LSt.at, show ¬ t = ys.length by omega]
theorem p_unl2 {r : Int} {ys : List Int} {m : Nat} (hl : ys.length = m) (b : List Int) : (LSt.at r ys m).doUnlock ((m : Int) + 1) b = ⟨(LSt.at r ys m).clear, 90⟩ := by
  simp [LSt.doUnlock, mayC, LSt.at, hl, show ¬ ((m : Int) + 1) = m by omega]
theorem p_unl3 {s : LSt} (left : Int) (b : List Int) : s.clear.doUnlock left b = ⟨s.clear, 90⟩ := by
  simp [LSt.doUnlock, mayC, LSt.clear]
theorem live_step {w0 w w' : World} {F F' : Nat → Prop} (hx : Ext w0 w) (hf : ∀ k, F k → w0.heap.size ≤ k) (k : Kept F w w') (f' : ∀ k, F' k → F k ∨ w.heap.size ≤ k) : Ext w0 w' ∧ ∀ k, F' k → w0.heap.size ≤ k :=
  ⟨hx.kept k hf, fun i hi => (f' i hi).elim (hf i) (fun h => by have := hx.size; omega)⟩
theorem LkC.lt {w : World} {g : Nat} {s : LSt} {F : Nat → Prop} (h : LkC w g s F) : ∀ k, F k → k < w.heap.size := by
  obtain ⟨_, _, _, _, h⟩ := h
  exact h.lt
theorem take_add' {ys : List Int} {a b : Nat} : ys.take (a + b) = ys.take a ++ (ys.drop a).take b := List.take_add
end Go.Proofs.Ytnjiajogbadadaa
