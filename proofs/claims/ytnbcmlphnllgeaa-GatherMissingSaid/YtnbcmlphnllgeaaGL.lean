import Derived.Test.YtnbcmlphnllgeaaGK
set_option linter.unusedVariables false
set_option linter.unusedSimpArgs false
namespace Go.Proofs.Ytnbcmlphnllgeaa
open Go.RowKit
theorem lss_set : ∀ {M : List Ls} {k : Nat} {y y' : Ls} {r : Nat} {u : Value}, M[k]? = some y → r < 8 → y'.vals = y.vals.set r u → (lss M).set (k * 8 + r) u = lss (M.set k y')
  | [], _, _, _, _, _, h, _, _ => by simp at h
  | x :: M, 0, y, y', r, u, h, hr, hv => by
    simp at h
    subst h
    simp only [lss, List.flatMap_cons, List.set_cons_zero, Nat.zero_mul, Nat.zero_add]
    rw [List.set_append_left _ _ (by rw [ls_len]; exact hr), hv]
  | x :: M, k + 1, y, y', r, u, h, hr, hv => by
    have ih := lss_set (M := M) (k := k) (by simpa using h) hr hv
    simp only [lss] at ih
    simp only [lss, List.flatMap_cons, List.set_cons_succ]
    rw [List.set_append_right _ _ (by rw [ls_len]; omega), ls_len, ← ih, show (k + 1) * 8 + r - 8 = k * 8 + r by omega]
/-- k of the lists are set, or are not. -/
def stims (b : Bool) (k : Nat) (L : List Ls) : List Ls := (L.take k).map (fun x => { x with stim := b }) ++ L.drop k
theorem stims_len (b : Bool) (k : Nat) (L : List Ls) : (stims b k L).length = L.length := by simp [stims]; omega
theorem stims_get {b : Bool} {k : Nat} {L : List Ls} {x : Ls} (h : L[k]? = some x) : (stims b k L)[k]? = some x := by
  have hl := (List.getElem?_eq_some_iff.1 h).1
  unfold stims
  rw [List.getElem?_append_right (by simp; omega)]
  simp
  rw [show k - min k L.length = 0 by omega, Nat.add_zero]
  exact h
theorem stims_set {b : Bool} {k : Nat} {L : List Ls} {x : Ls} (h : L[k]? = some x) : (stims b k L).set k { x with stim := b } = stims b (k + 1) L := by
  have hl := (List.getElem?_eq_some_iff.1 h).1
  unfold stims
  rw [List.set_append_right _ _ (by simp; omega), List.drop_eq_getElem_cons hl, List.take_add_one, h]
  have : L[k] = x := by rw [List.getElem?_eq_getElem hl] at h; injection h
  simp [this]
  rw [show k - min k L.length = 0 by omega]
  rfl
theorem stims_all (b : Bool) (L : List Ls) : stims b L.length L = L.map (fun x => { x with stim := b }) := by simp [stims]
theorem stims_ok {b : Bool} {k : Nat} {L : List Ls} (h : ∀ x ∈ L, x.ok ∧ x.n ≤ 20) : ∀ x ∈ stims b k L, x.ok ∧ x.n ≤ 20 := by
  intro x hx
  rcases List.mem_append.1 hx with hx | hx
  · obtain ⟨y, hy, rfl⟩ := List.mem_map.1 hx
    exact ⟨⟨(h y (List.mem_of_mem_take hy)).1.le, (h y (List.mem_of_mem_take hy)).1.cm⟩, (h y (List.mem_of_mem_take hy)).2⟩
  · exact h x (List.mem_of_mem_drop hx)
theorem findG_stim : ∀ {l : List Gp} (t : Nat), (∀ x ∈ l, x.stim = true) → (foundV (findG l t)).2.2 = false
  | [], _, _ => rfl
  | x :: l, t, h => by
    unfold findG
    split
    · have := h x (by simp)
      simp [foundV, this]
    · have ih := findG_stim (l := l) (t - x.tables) (fun y hy => h y (by simp [hy]))
      rcases e : findG l (t - x.tables) with _ | r
      · rfl
      · rw [e] at ih; exact ih
theorem take_found {l : List Gp} {code : Int} (h : (foundV (findG l (tabG code))).2.2 = false) (kind : Int) (bs : List Int) : (takeG l kind code bs).1.isSome = false := by
  unfold takeG
  split
  · rfl
  · rcases e : findG l (tabG code) with _ | ⟨i, k, b⟩
    · rfl
    · rw [e] at h
      have : b = false := h
      subst this
      rfl
def sumN (L : List Ls) : Nat := (L.map (·.n)).sum
theorem findG_many : ∀ {l : List Ls} {t : Nat}, sumN l ≤ t → findG (l.map newGp) t = none
  | [], _, _ => rfl
  | x :: l, t, h => by
    simp only [sumN, List.map_cons, List.sum_cons] at h
    simp only [List.map_cons]
    unfold findG
    rw [if_neg (by show ¬ t < x.n; omega), findG_many (l := l) (t := t - (newGp x).tables) (by show sumN l ≤ t - x.n; simp only [sumN]; omega)]
    rfl
theorem sum_succ {L : List Ls} {k : Nat} {x : Ls} (h : L[k]? = some x) : sumN (L.take (k + 1)) = sumN (L.take k) + x.n := by
  unfold sumN
  rw [List.take_add_one, h]
  simp
theorem sum_le : ∀ {L : List Ls}, (∀ x ∈ L, x.n ≤ 20) → sumN L ≤ L.length * 20
  | [], _ => Nat.zero_le _
  | x :: L, h => by
    have h1 := h x (by simp)
    have h2 := sum_le (L := L) (fun y hy => h y (by simp [hy]))
    simp only [sumN, List.map_cons, List.sum_cons, List.length_cons] at *
    omega
theorem stims_n (b : Bool) (k : Nat) (L : List Ls) : (stims b k L).map (·.n) = L.map (·.n) := by
  unfold stims
  rw [List.map_append, List.map_map]
  conv => rhs; rw [← List.take_append_drop k L, List.map_append]
  rfl
/-- a row of lists of one's own. -/
theorem lrow_at {w : World} {base g n c k : Nat} {M : List Ls} {y : Ls} (own : w.ownsRow base 45 8 (.slice (some ⟨g, 0, none⟩) n c) n (lss M)) (hy : M[k]? = some y) (hM : M.length = n) (b : Bool) :
    w.cell? ⟨g, k * 8 + 2, none⟩ = some (.bool y.stim) ∧ w.frozen? ⟨g, k * 8 + 2, none⟩ = false ∧ (w.setCell ⟨g, k * 8 + 2, none⟩ (.bool b)).ownsRow base 45 8 (.slice (some ⟨g, 0, none⟩) n c) n (lss (M.set k { y with stim := b })) ∧
    (w.setCell ⟨g, k * 8 + 2, none⟩ (.bool b)).cell? ⟨g, k * 8 + 1, none⟩ = some (.slice y.A y.n y.c) := by
  have hkl := (List.getElem?_eq_some_iff.1 hy).1
  obtain ⟨g1, c1, e1, own1, _, f1, k1, _⟩ := own_set own (i := k * 8 + 2) (by omega) (.bool b)
  injection e1 with e1 _ _
  injection e1 with e1
  injection e1 with e1
  subst e1
  rw [lss_set (y' := { y with stim := b }) hy (by omega) rfl] at own1
  have c2 := flat_at ls_len M k y 2 _ hy rfl
  rw [show (lss M)[k * 8 + 2]? = some (.bool y.stim) from c2] at k1
  have hy2 : (M.set k { y with stim := b })[k]? = some { y with stim := b } := List.getElem?_set_self hkl
  have c3 := flat_at ls_len _ k _ 1 _ hy2 rfl
  obtain ⟨g2, c4, e2, _, _, _, k2, _⟩ := own_set own1 (i := k * 8 + 1) (by omega) (.bool b)
  injection e2 with e2 _ _
  injection e2 with e2
  injection e2 with e2
  subst e2
  rw [show (lss (M.set k { y with stim := b }))[k * 8 + 1]? = some (.slice y.A y.n y.c) from c3] at k2
  exact ⟨k1, f1, own1, k2⟩
end Go.Proofs.Ytnbcmlphnllgeaa
