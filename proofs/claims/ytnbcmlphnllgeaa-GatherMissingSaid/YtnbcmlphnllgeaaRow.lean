/-
  Row: structs that lie in slices: load one, store one into a new variable, what a slice of structs shows.
-/
import Derived.Test.YtnbcmlphnllgeaaOwn
import Derived.Deep.MidRow
set_option linter.unusedVariables false
namespace Go.Proofs.Ytnbcmlphnllgeaa
open Go.RowKit
section
variable {P : Program} {w : World}
theorem wpList_stnew {ops : Array Oper} {rest : List Oper} {o : Oper} {a : Act} {Q : Exit → Act → World → Prop} (hgd : o.guard = none) (ty : TypeId) (x y : Operand) (ho : o.op = .store ty x y)
    {w1 : World} {z : Array Value} {t : TypeId} (hw : w = w1.alloc (.cells z t)) (vs : List Value) (hx : a.eval x = .pointer (some ⟨w1.heap.size, 0, none⟩)) (hy : a.eval y = .agg vs.toArray)
    (hi : (P.info? ty).map (·.size) = some vs.length) (hz : z.size = vs.length) (h1 : ∀ v ∈ vs, v.oneCell' = true)
    (h : wpList P ops Q rest (a.put o.dst undef) (w1.alloc (.cells vs.toArray t))) : wpList P ops Q (o :: rest) a w := by
  subst hw
  refine wpList_store_row hgd ty x y ho w1.heap.size vs.toArray hx hy t z (heap_alloc_new _ _) (by simpa using hi) (by simpa using hz) (all_oneCell_toArray h1) ?_
  have e : (w1.alloc (.cells z t)).setRow w1.heap.size vs.toArray = w1.alloc (.cells vs.toArray t) := by
    unfold World.setRow World.alloc
    congr 1
    apply Array.ext
    · simp
    · intro i h1 h2
      simp only [Array.getElem_modify, Array.getElem_push]
      split
      · rename_i hk; subst hk; simp
      · rename_i hk
        have : i < w1.heap.size := by simp at h2; omega
        simp [this]
  rw [e]; exact h
end
theorem flat_len {α : Type} {vals : α → List Value} {k : Nat} (hk : ∀ a, (vals a).length = k) : ∀ l : List α, (l.flatMap vals).length = l.length * k
  | [] => by simp
  | a :: l => by
    rw [List.flatMap_cons, List.length_append, hk, flat_len hk l, List.length_cons, Nat.add_mul]
    omega
theorem flat_get {α : Type} {vals : α → List Value} {k : Nat} (hk : ∀ a, (vals a).length = k) : ∀ (l : List α) (j : Nat) (u : Value), (l.flatMap vals)[j]? = some u → ∃ q r a, j = q * k + r ∧ r < k ∧ l[q]? = some a ∧ (vals a)[r]? = some u
  | [], j, u, h => by simp at h
  | a :: l, j, u, h => by
    rw [List.flatMap_cons] at h
    rcases Nat.lt_or_ge j k with g | g
    · rw [List.getElem?_append_left (by rw [hk]; exact g)] at h
      exact ⟨0, j, a, by omega, g, rfl, h⟩
    · rw [List.getElem?_append_right (by rw [hk]; exact g), hk] at h
      obtain ⟨q, r, b, h1, h2, h3, h4⟩ := flat_get hk l _ u h
      refine ⟨q + 1, r, b, ?_, h2, h3, h4⟩
      rw [Nat.add_mul]
      omega
theorem flat_at {α : Type} {vals : α → List Value} {k : Nat} (hk : ∀ a, (vals a).length = k) : ∀ (l : List α) (q : Nat) (a : α) (r : Nat) (u : Value), l[q]? = some a → (vals a)[r]? = some u → (l.flatMap vals)[q * k + r]? = some u
  | [], q, a, r, u, h, _ => by simp at h
  | b :: l, 0, a, r, u, h, hr => by
    simp at h; subst h
    rw [List.flatMap_cons, List.getElem?_append_left (by have := (List.getElem?_eq_some_iff.1 hr).1; omega)]
    simpa using hr
  | b :: l, q + 1, a, r, u, h, hr => by
    rw [List.flatMap_cons, List.getElem?_append_right (by rw [hk, Nat.add_mul]; omega), hk]
    have := flat_at hk l q a r u (by simpa using h) hr
    rw [← this]; congr 1
    rw [Nat.add_mul]; omega
theorem Shows.row {α : Type} {vals : α → List Value} {k : Nat} (hk : ∀ a, (vals a).length = k) (k0 : 0 < k) {w : World} {A : Option Addr} {n : Nat} {l : List α} (h : Shows w k A n (l.flatMap vals)) (hn : n = l.length) {i : Nat} {a : α} (ha : l[i]? = some a) :
    ∃ b o, A = some ⟨b, o, none⟩ ∧ b < w.heap.size ∧ w.rangeAt b (o + i * k) (vals a) := by
  have hil : i < l.length := (List.getElem?_eq_some_iff.1 ha).1
  obtain ⟨⟨b, o, spot⟩, rfl, hb, hc⟩ := h.2 (by omega)
  have h00 : 0 < (l.flatMap vals).length := by rw [flat_len hk]; exact Nat.mul_pos (by omega) k0
  have h0 := hc 0 _ (List.getElem?_eq_getElem h00)
  have hs : spot = none := by simpa [Addr.add] using World.cell?_spot h0
  subst hs
  refine ⟨b, o, rfl, hb, fun j v hj => ?_⟩
  have := hc _ v (flat_at hk l i a j v ha hj)
  rwa [Addr.add_mid, ← Nat.add_assoc] at this
theorem own_grow {w w' : World} {base : Nat} {e : TypeId} {size n : Nat} {v : Value} {xs : List Value} {row : Option Nat} (h : w.ownsRow base e size v n xs) (hg : w.grownBy w' row) (hne : ∀ b, v.ownBlock = some b → some b ≠ row) : w'.ownsRow base e size v n xs :=
  h.kept hg (by
    rcases hb : v.ownBlock with _ | b
    · exact .inl rfl
    · exact .inr (hne b hb))
/-- an element of an own row of structs. -/
theorem own_mid {w : World} {base : Nat} {e : TypeId} {size n : Nat} {v : Value} {xs vals : List Value} (h : w.ownsRow base e size v n xs) {i : Nat} (hi : i < n) (hs : 0 < vals.length) (hl : vals.length ≤ size) (hv : ∀ j u, vals[j]? = some u → xs[i * size + j]? = some u) :
    ∃ g c, v = .slice (some ⟨g, 0, none⟩) n c ∧ n ≤ c ∧ c ≤ maxLen ∧ g < w.heap.size ∧ w.rangeAt g (i * size) vals := by
  rcases h.2 with ⟨_, h0⟩ | ⟨g, cap, cur, rfl, _, hg, hnc, hm, hsz, ht⟩
  · omega
  · refine ⟨g, cap, rfl, hnc, hm, blk_lt hg, fun j u hj => ?_⟩
    have h1 := hv j u hj
    rw [← ht] at h1
    exact blk_cell hg (by simpa using get_take h1)
end Go.Proofs.Ytnbcmlphnllgeaa
