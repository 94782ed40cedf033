import Derived.Test.YtnbcmlphnllgeaaGQ
set_option linter.unusedVariables false
set_option linter.unusedSimpArgs false
namespace Go.Proofs.Ytnbcmlphnllgeaa
open Go.RowKit
/-- what came so far: at place j a packet of two bytes, the second of which is j. -/
def Sh (ca : List (List Int)) : Prop := ∀ (j : Nat) (x : List Int), ca[j]? = some x → ∃ i : Nat, i < 256 ∧ x = [(i : Int), (j : Int)]
theorem Sh.nil : Sh [] := fun j x h => by simp at h
theorem Sh.app {ca : List (List Int)} (h : Sh ca) {i k : Nat} (hi : i < 256) (hk : ca.length = k) : Sh (ca ++ [[(i : Int), (k : Int)]]) := by
  intro j x hx
  rw [List.getElem?_append] at hx
  split at hx
  · exact h j x hx
  · rename_i hj
    rcases Nat.eq_or_lt_of_le (Nat.not_lt.1 hj) with e | e
    · rw [← e] at hx ⊢
      simp at hx
      exact ⟨i, hi, by rw [← hx, hk]⟩
    · rw [List.getElem?_eq_none (by simp; omega)] at hx
      cases hx
/-- the round i came whole so far: k packets, the first one this round's. -/
def Wh (ca : List (List Int)) (i k : Nat) : Prop := 0 < k → ca.length = k ∧ ca[0]? = some [(i : Int), 0]
/-- a packet of a list of n tables, whatever came before. -/
theorem take_miss {n i k : Nat} {ca : List (List Int)} (hk : k < n) (hn : n ≤ 9) (hc : ca.length < n) (hs : Sh ca) (hi : i < 256) :
    ∃ (o : Option (Nat × Bool × List (List Int))) (ca' : List (List Int)), takeG [⟨n, false, false, ca⟩] 4 (k : Int) [(i : Int), (k : Int)] = (o, [⟨n, false, false, ca'⟩]) ∧ Sh ca' ∧ ca'.length < n ∧
      (o = none ∨ ∃ cb, o = some (0, false, cb) ∧ cb.length = n ∧ Sh cb ∧ (Wh ca i k → cb[0]? = some [(i : Int), 0])) ∧
      (Wh ca i k → (k + 1 < n ∧ Wh ca' i (k + 1)) ∨ (k + 1 = n ∧ o ≠ none)) := by
  have ht : tabG (k : Int) = k := by unfold tabG; rw [if_neg (by omega)]; omega
  have ho : overG (k : Int) = false := by unfold overG; simp; omega
  have hf : findG [⟨n, false, false, ca⟩] k = some (0, k, true) := by unfold findG; rw [if_pos (by show k < n; exact hk)]; rfl
  have key : ∀ cb : List (List Int), stepG ⟨n, false, false, ca⟩ k false [(i : Int), (k : Int)] = (false, cb) → Sh cb → cb.length ≤ n → (Wh ca i k → Wh cb i (k + 1)) →
      ∃ (o : Option (Nat × Bool × List (List Int))) (ca' : List (List Int)), takeG [⟨n, false, false, ca⟩] 4 (k : Int) [(i : Int), (k : Int)] = (o, [⟨n, false, false, ca'⟩]) ∧ Sh ca' ∧ ca'.length < n ∧
      (o = none ∨ ∃ cb, o = some (0, false, cb) ∧ cb.length = n ∧ Sh cb ∧ (Wh ca i k → cb[0]? = some [(i : Int), 0])) ∧
      (Wh ca i k → (k + 1 < n ∧ Wh ca' i (k + 1)) ∨ (k + 1 = n ∧ o ≠ none)) := by
    intro cb h1 h2 h3 h4
    unfold takeG
    rw [if_neg (by simp), ht, ho, hf]
    simp only [List.getD_cons_zero, h1, List.set_cons_zero]
    by_cases hl : cb.length < n
    · rw [if_pos hl]
      exact ⟨_, cb, rfl, h2, hl, .inl rfl, fun h => .inl ⟨by have := (h4 h (by omega)).1; omega, h4 h⟩⟩
    · rw [if_neg hl]
      exact ⟨_, [], rfl, Sh.nil, by simp; omega, .inr ⟨cb, rfl, by omega, h2, fun h => (h4 h (by omega)).2⟩, fun h => .inr ⟨by have := (h4 h (by omega)).1; omega, by simp⟩⟩
  by_cases h0 : k = 0
  · subst h0
    refine key [[(i : Int), 0]] (by unfold stepG; rw [if_pos rfl]; rfl) (Sh.nil.app hi rfl) (by simp; omega) (fun _ _ => ⟨rfl, rfl⟩)
  · by_cases hl : k = ca.length
    · refine key (ca ++ [[(i : Int), (k : Int)]]) (by unfold stepG; rw [if_neg h0, if_pos ⟨hl, rfl⟩]) (hs.app hi hl.symm) (by simp; omega) (fun h _ => ⟨by simp; omega, ?_⟩)
      rw [List.getElem?_append_left (by omega)]
      exact (h (by omega)).2
    · refine key [] (by unfold stepG; rw [if_neg h0, if_neg (fun h => hl h.1)]) Sh.nil (by simp) (fun h => absurd (h (by omega)).1.symm hl)
end Go.Proofs.Ytnbcmlphnllgeaa
