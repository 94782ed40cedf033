import Derived.Test.YtjgmnbfadnlikaaW
set_option linter.unusedVariables false
set_option linter.unusedSimpArgs false
namespace Go.Proofs.Ytjgmnbfadnlikaa
open Go.RowKit
theorem sgs_get {m : MP} {s : SM} : ∀ {k i : Nat}, k ≤ m.segs.length → i < k → m.segs[i]? = some s → (m.sgs k)[i]? = some (m.sg i s)
  | 0, _, _, h, _ => by omega
  | k + 1, i, hk, hi, hs => by
    obtain ⟨s', hs'⟩ : ∃ s', m.segs[k]? = some s' := ⟨_, List.getElem?_eq_getElem (by omega)⟩
    have hl := sgs_len m k (by omega)
    rw [sgs_succ hs']
    by_cases e : i = k
    · subst e
      rw [hs] at hs'
      injection hs' with hs'
      subst hs'
      rw [List.getElem?_append_right (by omega), hl]
      simp
    · rw [List.getElem?_append_left (by omega)]
      exact sgs_get (by omega) (by omega) hs
theorem good_seg {m : MP} {k i : Nat} {s : SM} (hs : (m.good k).segs[i]? = some s) : 1 ≤ s.len ∧ s.len ≤ 16 ∧ 2 ≤ s.pages ∧ s.pages ≤ 4 := by
  have := List.mem_of_getElem? hs
  simp only [MP.good, List.mem_map] at this
  obtain ⟨t, _, rfl⟩ := this
  simp only [SM.good]
  omega
theorem good_len (m : MP) (k : Nat) : (m.good k).segs.length ≤ 4 := by simp only [MP.good, List.length_map, List.length_take]; omega
theorem good_ram (m : MP) (k : Nat) : 8 ≤ (m.good k).ram ∧ (m.good k).ram ≤ 64 := by simp only [MP.good]; omega
theorem good_may (m : MP) (k : Nat) : (m.good k).may = true := by
  have h1 : (m.good k).head = true := by
    have := good_ram m k
    have := good_len m k
    have h0 : (m.good k).flash = [] := rfl
    simp only [MP.head, Bool.and_eq_true, decide_eq_true_eq, h0, List.length_nil]
    omega
  have h2 : (m.good k).segs.all SM.may = true := by
    rw [List.all_eq_true]
    intro s hs
    obtain ⟨i, hi, e⟩ := List.getElem_of_mem hs
    have := good_seg (m := m) (k := k) (i := i) (s := s) (by rw [List.getElem?_eq_getElem hi, e])
    simp only [SM.may, Bool.and_eq_true, decide_eq_true_eq]
    omega
  have h3 : (m.good k).flash.length = 0 := rfl
  simp [MP.may, h1, h2, h3]
theorem splice_nil (l : List Int) : splice l 0 [] = l := by simp [splice]
theorem good_sg {m : MP} {k i : Nat} {s : SM} : (m.good k).sg i s = ⟨s.len.toNat, List.replicate s.pages.toNat (zeros s.len.toNat), 0, 0⟩ := by
  have h : (m.good k).fl i = [] := rfl
  unfold MP.sg
  rw [h, splice_nil, List.set_replicate_self]
/-- the state behind New, of a map that was made good. -/
def MP.g0 (m : MP) : MS := (m.good m.segs.length).ms (m.good m.segs.length).segs.length
theorem g0_seg {m : MP} {i : Nat} (hi : i < (m.good m.segs.length).segs.length) : ∃ s ln np, (m.good m.segs.length).segs[i]? = some s ∧ s.len = (ln : Nat) ∧ s.pages = (np : Nat) ∧ 1 ≤ ln ∧ ln ≤ 16 ∧ 2 ≤ np ∧ np ≤ 4 ∧ m.g0.segs[i]? = some ⟨ln, List.replicate np (zeros ln), 0, 0⟩ := by
  obtain ⟨s, hs⟩ : ∃ s, (m.good m.segs.length).segs[i]? = some s := ⟨_, List.getElem?_eq_getElem hi⟩
  obtain ⟨a, b, c, d⟩ := good_seg hs
  refine ⟨s, s.len.toNat, s.pages.toNat, hs, by omega, by omega, by omega, by omega, by omega, by omega, ?_⟩
  have := sgs_get (m := m.good m.segs.length) (Nat.le_refl _) hi hs
  rw [good_sg] at this
  exact this
theorem g0_len (m : MP) : m.g0.segs.length = (m.good m.segs.length).segs.length := sgs_len _ _ (Nat.le_refl _)
end Go.Proofs.Ytjgmnbfadnlikaa
