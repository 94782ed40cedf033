/-
  Open: a slice of structs that comes in (open_rows).
-/
import Derived.Test.YtnbcmlphnllgeaaRow
import Derived.OpenShut
import Derived.Deep.Slices
set_option linter.unusedVariables false
namespace Go.Proofs.Ytnbcmlphnllgeaa
open Go.RowKit Go.ChangeShapes Go.WideShapes
theorem exists_list {α : Type} {R : Nat → α → Prop} : ∀ n, (∀ i, i < n → ∃ a, R i a) → ∃ l : List α, l.length = n ∧ ∀ i a, l[i]? = some a → R i a
  | 0, _ => ⟨[], rfl, fun i a h => by simp at h⟩
  | n + 1, h => by
    obtain ⟨l, hl, hr⟩ := exists_list n (fun i hi => h i (by omega))
    obtain ⟨a, ha⟩ := h n (by omega)
    refine ⟨l ++ [a], by simp [hl], fun i b hb => ?_⟩
    rcases Nat.lt_or_ge i n with g | g
    · rw [List.getElem?_append_left (by omega)] at hb
      exact hr i b hb
    · rw [List.getElem?_append_right (by omega)] at hb
      have hi : i - l.length = 0 := by
        rcases Nat.eq_zero_or_pos (i - l.length) with h0 | h0
        · exact h0
        · rw [List.getElem?_eq_none (by simp; omega)] at hb; cases hb
      rw [hi] at hb
      injection hb with hb
      subst hb
      have : i = n := by omega
      rw [this]; exact ha
theorem open_rows {α : Type} {H : Type} {enc : TypeId × Value → H} {W : World} {base b0 : Nat} {spare : Nat → Bool} {held : Bool} {r : Reach} {v : Value} {d : DataW H} {p : List MemPlace} {t e : TypeId} {k : Nat} {vals : α → List Value} {ok : α → Prop}
    (ht : Try.prog.underlying t = some (.slice e)) (hk : Try.prog.cellsOf e = k) (k0 : 0 < k) (hlen : ∀ a, (vals a).length = k)
    (elem : ∀ n cs x, cs.length = k → DataW.trod enc Try.prog W base spare held n e cs = some x → ∃ a, cs = vals a ∧ ok a)
    (hv : Value.okWide Try.prog W r b0 t v) (h : DataW.Trod enc Try.prog W base spare held t v d p) :
    ∃ (A : Option Addr) (n c : Nat) (l : List α), v = .slice A n c ∧ n ≤ c ∧ c ≤ maxLen ∧ n = l.length ∧ Shows W k A n (l.flatMap vals) ∧ ∀ a ∈ l, ok a := by
  obtain ⟨A, n, c, rfl⟩ := okWide_slice ht hv
  obtain ⟨fuel, hf⟩ := h
  rcases Deep.open_slice ht hf with ⟨h0, _⟩ | ⟨a, len, cap, m, n', D, Pl, hcs, hb, hl, hm, hmm, _, hi⟩
  · simp [Value.cells] at h0
    obtain ⟨rfl, rfl, rfl⟩ := h0
    exact ⟨none, 0, 0, [], rfl, Nat.le_refl _, by simp, rfl, Shows.nil, by simp⟩
  · simp [Value.cells] at hcs
    obtain ⟨rfl, rfl, rfl⟩ := hcs
    have hlm : n ≤ m := by rw [hmm]; split <;> omega
    obtain ⟨l, hll, hr⟩ := exists_list (R := fun i x => (∀ j u, (vals x)[j]? = some u → W.cell? (a.add (i * k + j)) = some u) ∧ ok x) n (fun i hin => by
      obtain ⟨cs', hc, ht'⟩ := hi i (by omega)
      rw [hk] at hc
      obtain ⟨_, hcl, hat⟩ := World.cells?_some hc
      obtain ⟨x, rfl, hx⟩ := elem _ _ _ hcl ht'
      refine ⟨x, fun j u hj => ?_, hx⟩
      have hjk : j < k := by rw [← hlen x]; exact (List.getElem?_eq_some_iff.1 hj).1
      rw [← add_add', hat j hjk, hj])
    refine ⟨_, _, _, l, rfl, hl, hm, hll.symm, ⟨by rw [flat_len hlen, hll], fun h0 => ⟨a, rfl, ?_, fun j u hu => ?_⟩⟩, fun x hx => ?_⟩
    · obtain ⟨x, hx⟩ : ∃ x, l[0]? = some x := ⟨_, List.getElem?_eq_getElem (by omega)⟩
      have hv0 : 0 < (vals x).length := by rw [hlen]; exact k0
      have := (hr 0 x hx).1 0 _ (List.getElem?_eq_getElem hv0)
      have := World.block_lt_of_cell? W _ this
      rwa [block_add] at this
    · obtain ⟨q, r, x, rfl, h2, h3, h4⟩ := flat_get hlen l j u hu
      exact (hr q x h3).1 r u h4
    · obtain ⟨q, hq, rfl⟩ := List.getElem_of_mem hx
      exact (hr q _ (List.getElem?_eq_getElem hq)).2
theorem open_field {α : Type} {H : Type} {enc : TypeId × Value → H} {W : World} {base : Nat} {spare : Nat → Bool} {held : Bool} {v : Value} {d : DataW H} {p : List MemPlace} {t e : TypeId} {k : Nat} {vals : α → List Value} {ok : α → Prop}
    (ht : Try.prog.underlying t = some (.slice e)) (hk : Try.prog.cellsOf e = k) (k0 : 0 < k) (hlen : ∀ a, (vals a).length = k)
    (elem : ∀ n cs x, cs.length = k → DataW.trod enc Try.prog W base spare held n e cs = some x → ∃ a, cs = vals a ∧ ok a)
    {fuel : Nat} (hf : DataW.trod enc Try.prog W base spare held fuel t [v] = some (d, p)) :
    ∃ (A : Option Addr) (n c : Nat) (l : List α), v = .slice A n c ∧ n ≤ c ∧ c ≤ maxLen ∧ n = l.length ∧ Shows W k A n (l.flatMap vals) ∧ ∀ a ∈ l, ok a := by
  rcases Deep.open_slice ht hf with ⟨h0, _⟩ | ⟨a, len, cap, m, n', D, Pl, hcs, hb, hl, hm, hmm, _, hi⟩
  · simp at h0
    subst h0
    exact ⟨none, 0, 0, [], rfl, Nat.le_refl _, by simp, rfl, Shows.nil, by simp⟩
  · simp at hcs
    subst hcs
    have hlm : len ≤ m := by rw [hmm]; split <;> omega
    obtain ⟨l, hll, hr⟩ := exists_list (R := fun i x => (∀ j u, (vals x)[j]? = some u → W.cell? (a.add (i * k + j)) = some u) ∧ ok x) len (fun i hin => by
      obtain ⟨cs', hc, ht'⟩ := hi i (by omega)
      rw [hk] at hc
      obtain ⟨_, hcl, hat⟩ := World.cells?_some hc
      obtain ⟨x, rfl, hx⟩ := elem _ _ _ hcl ht'
      refine ⟨x, fun j u hj => ?_, hx⟩
      have hjk : j < k := by rw [← hlen x]; exact (List.getElem?_eq_some_iff.1 hj).1
      rw [← add_add', hat j hjk, hj])
    refine ⟨_, _, _, l, rfl, hl, hm, hll.symm, ⟨by rw [flat_len hlen, hll], fun h0 => ⟨a, rfl, ?_, fun j u hu => ?_⟩⟩, fun x hx => ?_⟩
    · obtain ⟨x, hx⟩ : ∃ x, l[0]? = some x := ⟨_, List.getElem?_eq_getElem (by omega)⟩
      have hv0 : 0 < (vals x).length := by rw [hlen]; exact k0
      have := (hr 0 x hx).1 0 _ (List.getElem?_eq_getElem hv0)
      have := World.block_lt_of_cell? W _ this
      rwa [block_add] at this
    · obtain ⟨q, r, x, rfl, h2, h3, h4⟩ := flat_get hlen l j u hu
      exact (hr q x h3).1 r u h4
    · obtain ⟨q, hq, rfl⟩ := List.getElem_of_mem hx
      exact (hr q _ (List.getElem?_eq_getElem hq)).2
end Go.Proofs.Ytnbcmlphnllgeaa
