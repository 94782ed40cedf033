import Derived.Test.YtjdabmadpclbaaaBL
set_option linter.unusedVariables false
set_option linter.unusedSimpArgs false
namespace Go.Proofs.Ytjdabmadpclbaaa
open Go.RowKit
/-- how many frames wait in all. -/
def tot (ss : List BSt) : Nat := (ss.map fun s => s.tx.length).sum
theorem tot_set {s s' : BSt} : ∀ (ss : List BSt) (i : Nat), ss[i]? = some s → tot (ss.set i s') + s.tx.length = tot ss + s'.tx.length
  | [], i, h => by simp at h
  | a :: l, 0, h => by simp at h; subst h; simp [tot]; omega
  | a :: l, i + 1, h => by
    have := tot_set (s' := s') l i (by simpa using h)
    simp [tot] at this ⊢
    omega
theorem tot_zero : ∀ {ss : List BSt}, tot ss = 0 → ∀ (j : Nat) (s : BSt), ss[j]? = some s → s.tx = []
  | [], _, j, s, h => by simp at h
  | a :: l, h0, 0, s, h => by simp at h; subst h; simp [tot] at h0; exact h0.1
  | a :: l, h0, j + 1, s, h => tot_zero (ss := l) (by simp [tot] at h0 ⊢; exact h0.2) j s (by simpa using h)
theorem tot_nil : ∀ {ss : List BSt}, (∀ (j : Nat) (s : BSt), ss[j]? = some s → s.tx = []) → tot ss = 0
  | [], _ => rfl
  | a :: l, h => by
    have h1 := tot_nil (ss := l) (fun j s hs => h (j + 1) s (by simpa using hs))
    have h2 := h 0 a rfl
    simp [tot] at h1 ⊢
    exact ⟨h2, h1⟩
theorem tot_le : ∀ {ss : List BSt}, (∀ s ∈ ss, s.ok) → tot ss ≤ 3 * ss.length
  | [], _ => by simp [tot]
  | a :: l, h => by
    have := tot_le (ss := l) (fun s hs => h s (by simp [hs]))
    have := (h a (by simp)).nt
    simp [tot] at *
    omega
theorem rank_nn {f : Fr} (h : f.ok) : 0 ≤ f.rank := by
  unfold Fr.rank rankB
  split
  · unfold rankI
    have := h.1
    split
    · have := Int.emod_nonneg f.id (show (262144 : Int) ≠ 0 by omega); omega
    · omega
  · omega
theorem pickTo_all {ss : List BSt} : ∀ k, k ≤ ss.length → (∀ (j : Nat) (s : BSt), j < k → ss[j]? = some s → (pickTo ss k).2.2 = false → s.tx = []) ∧ ((pickTo ss k).2.2 = true → ∃ s, ss[(pickTo ss k).1]? = some s ∧ s.tx ≠ [] ∧ (pickTo ss k).2.1 = s.next.1) ∧
    (∀ (j : Nat) (s : BSt), j < k → ss[j]? = some s → s.tx ≠ [] → (pickTo ss k).2.2 = true → (pickTo ss k).2.1.rank ≤ s.next.1.rank ∧ (j < (pickTo ss k).1 → (pickTo ss k).2.1.rank < s.next.1.rank))
  | 0, _ => ⟨fun j s h => by omega, fun h => by simp [pickTo] at h, fun j s h => by omega⟩
  | k + 1, hk => by
    obtain ⟨i1, i2, i3⟩ := pickTo_all (ss := ss) k (by omega)
    have hsk : ss[k]? = some ss[k] := List.getElem?_eq_getElem (by omega)
    have hgd : ss.getD k d0 = ss[k] := by simp [List.getD, hsk]
    have hlt := pickTo_lt (ss := ss) k
    generalize ss[k] = sk at hsk hgd
    obtain ⟨pl, be, fd, hp⟩ : ∃ pl be fd, pickTo ss k = (pl, be, fd) := ⟨_, _, _, rfl⟩
    by_cases h0 : sk.tx = []
    · have e : pickTo ss (k + 1) = pickTo ss k := by rw [pickTo_step (f := Fr.zero) (ok := false) (by rw [hgd]; exact next_zero h0) hp, hp]; rfl
      rw [e]
      refine ⟨fun j s hj hs hf => ?_, i2, fun j s hj hs hne => ?_⟩
      · rcases Nat.lt_succ_iff_lt_or_eq.1 hj with h | rfl
        · exact i1 j s h hs hf
        · rw [hsk] at hs; injection hs with hs; rw [← hs]; exact h0
      · rcases Nat.lt_succ_iff_lt_or_eq.1 hj with h | rfl
        · exact i3 j s h hs hne
        · rw [hsk] at hs; injection hs with hs; rw [← hs] at hne; exact absurd h0 hne
    · have hst := pickTo_step (f := sk.next.1) (ok := true) (by rw [hgd, next_eq h0]) hp
      rw [hp] at i1 i2 i3 hlt
      simp only at i1 i2 i3 hlt
      cases fd
      · have e : pickTo ss (k + 1) = (k, sk.next.1, true) := by rw [hst]; rfl
        rw [e]
        refine ⟨fun j s hj hs hf => (by cases hf), fun _ => ⟨sk, hsk, h0, rfl⟩, fun j s hj hs hne _ => ?_⟩
        rcases Nat.lt_succ_iff_lt_or_eq.1 hj with h | rfl
        · exact absurd (i1 j s h hs rfl) hne
        · rw [hsk] at hs; injection hs with hs; rw [← hs]; exact ⟨Int.le_refl _, fun h => by simp at h⟩
      · by_cases hr : sk.next.1.rank < be.rank
        · have e : pickTo ss (k + 1) = (k, sk.next.1, true) := by rw [hst]; simp [hr]
          rw [e]
          refine ⟨fun j s hj hs hf => (by cases hf), fun _ => ⟨sk, hsk, h0, rfl⟩, fun j s hj hs hne _ => ?_⟩
          rcases Nat.lt_succ_iff_lt_or_eq.1 hj with h | rfl
          · have := (i3 j s h hs hne rfl).1
            exact ⟨by simp only; omega, fun _ => by simp only; omega⟩
          · rw [hsk] at hs; injection hs with hs; rw [← hs]; exact ⟨Int.le_refl _, fun h => by simp at h⟩
        · have e : pickTo ss (k + 1) = (pl, be, true) := by rw [hst]; simp [hr]
          rw [e]
          refine ⟨fun j s hj hs hf => (by cases hf), i2, fun j s hj hs hne _ => ?_⟩
          rcases Nat.lt_succ_iff_lt_or_eq.1 hj with h | rfl
          · exact i3 j s h hs hne rfl
          · rw [hsk] at hs; injection hs with hs; rw [← hs]; have := hlt rfl; exact ⟨by simp only; omega, fun h => by simp only at h; omega⟩
theorem pick_some {ss : List BSt} (h : 0 < tot ss) : (pick ss).2.2 = true := by
  rcases hb : (pick ss).2.2 with _ | _
  · have := (pickTo_all (ss := ss) ss.length (Nat.le_refl _)).1
    have hz : ∀ (j : Nat) (s : BSt), ss[j]? = some s → s.tx = [] := fun j s hs => this j s (List.getElem?_eq_some_iff.1 hs).1 hs hb
    have := tot_nil hz
    omega
  · rfl
theorem pick_no {ss : List BSt} (h : tot ss = 0) : pick ss = (0, Fr.zero, false) := by
  apply pick_none
  rcases hb : (pick ss).2.2 with _ | _
  · rfl
  · obtain ⟨s, h1, h2, _⟩ := (pickTo_all (ss := ss) ss.length (Nat.le_refl _)).2.1 hb
    exact absurd (tot_zero h _ s h1) h2
theorem turn_map {ss : List BSt} {pl : Nat} {f : Fr} (lost : Bool) (hp : pick ss = (pl, f, true)) : ∃ s, ss[pl]? = some s ∧ s.tx ≠ [] ∧ s.next = (f, true) ∧ (turnL lost ss).map (·.tx) = (ss.set pl s.done).map (·.tx) := by
  obtain ⟨s, h1, h2, h3⟩ := (pickTo_all (ss := ss) ss.length (Nat.le_refl _)).2.1 (by show (pick ss).2.2 = true; rw [hp])
  change ss[(pick ss).1]? = _ at h1
  change (pick ss).2.1 = _ at h3
  rw [hp] at h1 h3
  simp only at h1 h3
  have hgd : ss.getD pl d0 = s := by simp [List.getD, h1]
  have hnx : s.next = (f, true) := by rw [h3, next_eq h2]
  refine ⟨s, h1, h2, hnx, ?_⟩
  unfold turnL
  rw [hp]
  simp only [hgd]
  cases lost
  · simp only [Bool.true_eq_false, Bool.false_eq_true, if_false]
    apply List.ext_getElem?
    intro j
    rw [List.getElem?_map, List.getElem?_map, skN_get _ _ _ _ _ (by rw [List.length_set]; exact Nat.le_refl _)]
    split
    · cases (ss.set pl s.done)[j]? <;> simp [take_tx]
    · rfl
  · simp
theorem tot_map {a b : List BSt} (h : a.map (·.tx) = b.map (·.tx)) : tot a = tot b := by
  have := congrArg (fun l => (l.map List.length).sum) h
  simpa [tot, List.map_map, Function.comp_def] using this
theorem tot_turn {ss : List BSt} {pl : Nat} {f : Fr} (lost : Bool) (hp : pick ss = (pl, f, true)) : tot (turnL lost ss) + 1 = tot ss := by
  obtain ⟨s, h1, h2, _, h3⟩ := turn_map lost hp
  have := tot_set (s' := s.done) ss pl h1
  have hl := List.length_pos_iff.2 h2
  rw [tot_map h3]
  rw [done_len] at this
  omega
/-- all that wait go behind what went last. -/
def Inv (la : Int) (wh : Nat) (ss : List BSt) : Prop := ∀ (j : Nat) (s : BSt) (x : Fr), ss[j]? = some s → x ∈ s.tx → la < x.rank ∨ (la = x.rank ∧ wh ≤ j)
theorem next_le {s : BSt} {x : Fr} (hx : x ∈ s.tx) : s.next.1.rank ≤ x.rank := by
  have hne : s.tx ≠ [] := fun e => by rw [e] at hx; cases hx
  rw [next_eq hne]
  exact best_le s.tx x hx
theorem inv_turn {ss : List BSt} {pl : Nat} {f : Fr} (hp : pick ss = (pl, f, true)) : Inv f.rank pl (turnL false ss) := by
  obtain ⟨s, h1, h2, h4, h3⟩ := turn_map false hp
  intro j s' x hs' hx
  have e := congrArg (fun l => l[j]?) h3
  simp only [List.getElem?_map, hs', Option.map_some] at e
  obtain ⟨t, ht, hxt⟩ : ∃ t, ss[j]? = some t ∧ x ∈ t.tx := by
    by_cases hj : pl = j
    · subst hj
      refine ⟨s, h1, ?_⟩
      rw [List.getElem?_set_self (List.getElem?_eq_some_iff.1 h1).1] at e
      simp only [Option.map_some, Option.some.injEq] at e
      rw [e] at hx
      unfold BSt.done at hx
      split at hx
      · exact hx
      · exact List.mem_of_mem_eraseIdx hx
    · rw [List.getElem?_set_ne hj] at e
      cases ht : ss[j]? with
      | none => rw [ht] at e; cases e
      | some t =>
        rw [ht] at e
        simp only [Option.map_some, Option.some.injEq] at e
        exact ⟨t, rfl, by rw [← e]; exact hx⟩
  have hne : t.tx ≠ [] := fun e => by rw [e] at hxt; cases hxt
  have h5 := (pickTo_all (ss := ss) ss.length (Nat.le_refl _)).2.2 j t (List.getElem?_eq_some_iff.1 ht).1 ht hne (by show (pick ss).2.2 = true; rw [hp])
  change (pick ss).2.1.rank ≤ _ ∧ (j < (pick ss).1 → (pick ss).2.1.rank < _) at h5
  rw [hp] at h5
  simp only at h5
  have h6 := next_le hxt
  by_cases hj : j < pl
  · have := h5.2 hj; left; omega
  · by_cases hr : f.rank < x.rank
    · exact .inl hr
    · exact .inr ⟨by omega, by omega⟩
theorem inv_now {ss : List BSt} {pl : Nat} {f : Fr} {la : Int} {wh : Nat} (h : Inv la wh ss) (hp : pick ss = (pl, f, true)) : ¬ f.rank < la ∧ (f.rank = la → wh ≤ pl) := by
  obtain ⟨s, h1, h2, h4, _⟩ := turn_map false hp
  have hm : f ∈ s.tx := by
    have := next_mem h4 rfl
    exact this.1
  rcases h pl s f h1 hm with h | ⟨h, h'⟩
  · exact ⟨by omega, fun e => by omega⟩
  · exact ⟨by omega, fun _ => h'⟩
end Go.Proofs.Ytjdabmadpclbaaa
