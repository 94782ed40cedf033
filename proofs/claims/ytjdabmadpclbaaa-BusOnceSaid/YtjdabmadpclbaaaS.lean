import Derived.Test.YtjdabmadpclbaaaR
set_option linter.unusedVariables false
set_option linter.unusedSimpArgs false
namespace Go.Proofs.Ytjdabmadpclbaaa
open Go.RowKit Go.ChangeShapes Go.WideShapes
structure Ac where
  kind : Int
  f : Fr
def Ac.vals (a : Ac) : List Value := .int .u8 a.kind :: a.f.vals
def Ac.ok (a : Ac) : Prop := (0 ≤ a.kind ∧ a.kind < 256) ∧ a.f.ok
def acs (l : List Ac) : List Value := l.flatMap Ac.vals
theorem ac_len (a : Ac) : a.vals.length = 12 := rfl
theorem ac_one (a : Ac) : ∀ v ∈ a.vals, v.oneCell' = true := by
  intro v hv
  rcases List.mem_cons.1 hv with rfl | hv
  · rfl
  · exact fr_one a.f v hv
theorem flat_take {α : Type} {vals : α → List Value} {k : Nat} (hk : ∀ a, (vals a).length = k) : ∀ (l : List α) (m : Nat), (l.flatMap vals).take (m * k) = (l.take m).flatMap vals
  | [], m => by simp
  | a :: l, 0 => by simp
  | a :: l, m + 1 => by
    rw [List.take_succ_cons, List.flatMap_cons, List.flatMap_cons, List.take_append, ← flat_take hk l m, hk]
    rw [List.take_of_length_le (by rw [hk, Nat.add_mul]; omega)]
    congr 2
    rw [Nat.add_mul]; omega
theorem flat_at {α : Type} {vals : α → List Value} {k : Nat} (hk : ∀ a, (vals a).length = k) : ∀ (l : List α) (q : Nat) (a : α) (r : Nat) (u : Value), l[q]? = some a → (vals a)[r]? = some u → (l.flatMap vals)[q * k + r]? = some u
  | [], q, a, r, u, h, _ => by simp at h
  | b :: l, 0, a, r, u, h, hr => by
    simp at h; subst h
    rw [List.flatMap_cons, List.getElem?_append_left (by have := (List.getElem?_eq_some_iff.1 hr).1; omega)]
    simpa using hr
  | b :: l, q + 1, a, r, u, h, hr => by
    rw [List.flatMap_cons, List.getElem?_append_right (by rw [hk, Nat.add_mul]; omega), hk]
    have := flat_at hk l q a r u (by simpa using h) hr
    rw [← this]; congr 1
    rw [Nat.add_mul]; omega
theorem Shows.row {α : Type} {vals : α → List Value} {k : Nat} (hk : ∀ a, (vals a).length = k) (k0 : 0 < k) {w : World} {A : Option Addr} {n : Nat} {l : List α} (h : Shows w k A n (l.flatMap vals)) (hn : n = l.length) {i : Nat} {a : α} (ha : l[i]? = some a) :
    ∃ b o, A = some ⟨b, o, none⟩ ∧ b < w.heap.size ∧ w.rangeAt b (o + i * k) (vals a) := by
  have hil : i < l.length := (List.getElem?_eq_some_iff.1 ha).1
  obtain ⟨⟨b, o, spot⟩, rfl, hb, hc⟩ := h.2 (by omega)
  have h00 : 0 < (l.flatMap vals).length := by rw [flat_len hk]; exact Nat.mul_pos (by omega) k0
  have h0 := hc 0 _ (List.getElem?_eq_getElem h00)
  have hs : spot = none := by simpa [Addr.add] using World.cell?_spot h0
  subst hs
  refine ⟨b, o, rfl, hb, fun j v hj => ?_⟩
  have := hc _ v (flat_at hk l i a j v ha hj)
  rwa [Addr.add_mid, ← Nat.add_assoc] at this
/-- pure facts on the least Rank. -/
theorem rk_app (l : List Fr) (f : Fr) (i : Nat) (h : i < l.length) : rk (l ++ [f]) i = rk l i := by
  simp [rk, List.getD, List.getElem?_append_left h]
theorem rk_last (l : List Fr) (f : Fr) : rk (l ++ [f]) l.length = f.rank := by simp [rk, List.getD]
theorem bestTo_app (l : List Fr) (f : Fr) : ∀ k, k ≤ l.length → l ≠ [] → bestTo (l ++ [f]) k = bestTo l k
  | 0, _, _ => rfl
  | k + 1, h, hne => by
    have ih := bestTo_app l f k (by omega) hne
    have hb : bestTo l k < l.length := by
      have := List.length_pos_iff.2 hne
      rcases bestTo_lt l k with h' | h' <;> omega
    simp only [bestTo, ih, rk_app l f k (by omega), rk_app l f _ hb]
theorem best_app (l : List Fr) (f : Fr) (hne : l ≠ []) : best (l ++ [f]) = if f.rank < rk l (best l) then l.length else best l := by
  have hb := best_lt hne
  unfold best at hb ⊢
  rw [List.length_append, List.length_singleton, bestTo, bestTo_app l f l.length (Nat.le_refl _) hne, rk_last, rk_app l f _ hb]
theorem best_one (f : Fr) : best [f] = 0 := by simp [best, bestTo]
theorem bestTo_le (l : List Fr) : ∀ k i, i < k → rk l (bestTo l k) ≤ rk l i
  | 0, i, h => by omega
  | k + 1, i, h => by
    simp only [bestTo]
    rcases Nat.lt_or_ge i k with g | g
    · have := bestTo_le l k i g
      split <;> omega
    · obtain rfl : i = k := by omega
      split <;> omega
theorem best_le (l : List Fr) (f : Fr) (h : f ∈ l) : rk l (best l) ≤ f.rank := by
  obtain ⟨i, hi, rfl⟩ := List.getElem_of_mem h
  have := bestTo_le l l.length i hi
  rw [show l[i].rank = rk l i by simp [rk, List.getD, List.getElem?_eq_getElem hi]]
  exact this
theorem next_eq {s : BSt} (h : s.tx ≠ []) : s.next = (s.tx.getD (best s.tx) Fr.zero, true) := by simp [BSt.next, h]
theorem next_zero {s : BSt} (h : s.tx = []) : s.next = (Fr.zero, false) := by simp [BSt.next, h]
theorem next_mem {s : BSt} {f : Fr} {b : Bool} (h : s.next = (f, b)) (hb : b = true) : f ∈ s.tx ∧ f.rank = rk s.tx (best s.tx) := by
  by_cases h0 : s.tx = []
  · rw [next_zero h0] at h; injection h with _ h; subst h; cases hb
  · rw [next_eq h0] at h
    injection h with h _
    subst h
    exact ⟨List.mem_of_getElem? (getD_at (best_lt h0)), rfl⟩
/-- behind a frame that was sent: the next one's Rank is no greater. -/
theorem send_rank {s : BSt} {f now was : Fr} {b c : Bool} (hs : (s.send f).2 = 0) (hw : s.next = (was, b)) (hn : (s.send f).1.next = (now, c)) : now.rank ≤ f.rank ∧ (b = true → now.rank ≤ was.rank) := by
  have he : (s.send f).1 = { s with tx := s.tx ++ [f] } := by
    unfold BSt.send at hs ⊢
    split
    · rename_i h; simp [h] at hs
    · rename_i h
      split
      · rename_i h2; simp [h, h2] at hs
      · rfl
  rw [he] at hn
  have hne : ({ s with tx := s.tx ++ [f] } : BSt).tx ≠ [] := by simp
  rw [next_eq hne] at hn
  injection hn with hn _
  subst hn
  have hl := best_le (s.tx ++ [f])
  have hr : ((s.tx ++ [f]).getD (best (s.tx ++ [f])) Fr.zero).rank = rk (s.tx ++ [f]) (best (s.tx ++ [f])) := rfl
  constructor
  · rw [hr]; exact hl f (by simp)
  · intro hb
    obtain ⟨hm, _⟩ := next_mem hw hb
    rw [hr]; exact hl was (by simp [hm])
theorem send_err {s : BSt} {f : Fr} (hs : (s.send f).2 ≠ 0) : (s.send f).1 = s := by
  unfold BSt.send at hs ⊢
  split
  · rfl
  · rename_i h
    split
    · rfl
    · rename_i h2; simp [h, h2] at hs
theorem send_len {s : BSt} {f : Fr} (hs : (s.send f).2 = 0) : (s.send f).1.tx.length = s.tx.length + 1 := by
  unfold BSt.send at hs ⊢
  split
  · rename_i h; simp [h] at hs
  · rename_i h
    split
    · rename_i h2; simp [h, h2] at hs
    · simp
theorem done_len (s : BSt) : s.done.tx.length = s.tx.length - 1 := by
  unfold BSt.done
  split
  · rename_i h; simp [h]
  · rename_i h; simp [List.length_eraseIdx, best_lt h]
theorem done_rank {s : BSt} {now was : Fr} {b c : Bool} (hw : s.next = (was, b)) (hn : s.done.next = (now, c)) (hc : c = true) : was.rank ≤ now.rank := by
  obtain ⟨hm, _⟩ := next_mem hn hc
  by_cases h0 : s.tx = []
  · simp [BSt.done, h0] at hm
  · have hm2 : now ∈ s.tx := by
      simp [BSt.done, h0] at hm
      exact List.mem_of_mem_eraseIdx hm
    rw [next_eq h0] at hw
    injection hw with hw _
    subst hw
    exact best_le _ _ hm2
theorem send_errs (s : BSt) (f : Fr) : (s.send f).2 = 0 ∨ (s.send f).2 = 1 ∨ (s.send f).2 = 20 := by
  unfold BSt.send
  split
  · simp
  · split <;> simp
end Go.Proofs.Ytjdabmadpclbaaa
