/-
  Own: a heap shape of one's own: each place (a tag) owns a row in a block of its own; which block is whose.
-/
import Derived.Test.YtnbcmlphnllgeaaOwnS
import Derived.Laws.CopyOwn
set_option linter.unusedVariables false
namespace Go.Proofs.Ytnbcmlphnllgeaa
open Go.RowKit
abbrev Tg := Nat × Nat × Nat
structure Sp where
  e : TypeId
  size : Nat
  n : Nat
  xs : List Value
/-- Every place of 'sp' owns its row, in a block that bears its tag. -/
structure Own (w : World) (va : Tg → Value) (T : Nat → Option Tg) (sp : Tg → Option Sp) : Prop where
  own : ∀ t p, sp t = some p → w.ownsRow 0 p.e p.size (va t) p.n p.xs
  tag : ∀ t p, sp t = some p → ∀ b, (va t).ownBlock = some b → T b = some t
  lt : ∀ b t, T b = some t → b < w.heap.size
section
variable {w w' : World} {va : Tg → Value} {T : Nat → Option Tg} {sp sp' : Tg → Option Sp} {F : Nat → Prop}
theorem Own.kept (h : Own w va T sp) (k : Kept F w w') (hF : ∀ b t, T b = some t → ¬ F b) : Own w' va T sp :=
  ⟨fun t p hp => own_keptF (h.own t p hp) k (fun b hb => hF b t (h.tag t p hp b hb)), h.tag, fun b t hb => Nat.lt_of_lt_of_le (h.lt b t hb) k.size⟩
theorem Own.ext (h : Own w va T sp) (x : Ext w w') : Own w' va T sp := h.kept (F := fun _ => False) (.of_ext x) (fun _ _ _ e => e)
theorem Own.sub (h : Own w va T sp) (hs : ∀ t p, sp' t = some p → sp t = some p) : Own w va T sp' :=
  ⟨fun t p hp => h.own t p (hs t p hp), fun t p hp => h.tag t p (hs t p hp), h.lt⟩
/-- a place's row is written. -/
theorem Own.set (h : Own w va T sp) {t0 : Tg} {p0 : Sp} (k : Kept (fun b => T b = some t0) w w') (hv : w'.ownsRow 0 p0.e p0.size (va t0) p0.n p0.xs) (ht : ∀ b, (va t0).ownBlock = some b → T b = some t0)
    (hs : ∀ t, t ≠ t0 → ∀ p, sp' t = some p → sp t = some p) (h0 : ∀ p, sp' t0 = some p → p = p0) : Own w' va T sp' := by
  refine ⟨fun t p hp => ?_, fun t p hp b hb => ?_, fun b t hb => Nat.lt_of_lt_of_le (h.lt b t hb) k.size⟩
  · by_cases e : t = t0
    · subst e; rw [h0 p hp]; exact hv
    · exact own_keptF (h.own t p (hs t e p hp)) k (fun b hb hb' => e (by have := h.tag t p (hs t e p hp) b hb; rw [this] at hb'; injection hb'))
  · by_cases e : t = t0
    · subst e; exact ht b hb
    · exact h.tag t p (hs t e p hp) b hb
/-- a place has a row in another block (or its first). -/
theorem Own.put (h : Own w va T sp) {t0 : Tg} {p0 : Sp} {v : Value} {B : Nat} (k : Kept (fun b => b = B ∨ T b = some t0) w w') (hB : T B = some t0 ∨ w.heap.size ≤ B) (hl : B < w'.heap.size)
    (hv : w'.ownsRow 0 p0.e p0.size v p0.n p0.xs) (hvb : ∀ b, v.ownBlock = some b → b = B)
    (hs : ∀ t, t ≠ t0 → ∀ p, sp' t = some p → sp t = some p) (h0 : ∀ p, sp' t0 = some p → p = p0) :
    Own w' (fun t => if t = t0 then v else va t) (fun b => if b = B then some t0 else T b) sp' := by
  have hne : ∀ t, t ≠ t0 → ∀ b, T b = some t → b ≠ B := fun t ht b hb e => by
    subst e
    rcases hB with hB | hB
    · rw [hB] at hb; injection hb with hb; exact ht hb.symm
    · have := h.lt _ _ hb; omega
  refine ⟨fun t p hp => ?_, fun t p hp b hb => ?_, fun b t hb => ?_⟩
  · by_cases e : t = t0
    · subst e; rw [if_pos rfl, h0 p hp]; exact hv
    · rw [if_neg e]
      refine own_keptF (h.own t p (hs t e p hp)) k (fun b hb hb' => ?_)
      have hT := h.tag t p (hs t e p hp) b hb
      rcases hb' with hb' | hb'
      · exact hne t e b hT hb'
      · rw [hT] at hb'; injection hb' with hb'; exact e hb'
  · by_cases e : t = t0
    · subst e; rw [if_pos rfl] at hb; rw [if_pos (hvb b hb)]
    · rw [if_neg e] at hb
      have hT := h.tag t p (hs t e p hp) b hb
      rw [if_neg (hne t e b hT)]; exact hT
  · by_cases e : b = B
    · subst e; exact hl
    · rw [if_neg e] at hb; exact Nat.lt_of_lt_of_le (h.lt b t hb) k.size
end
section
variable {w w' : World} {base : Nat} {e : TypeId} {size n : Nat} {v : Value} {xs : List Value}
/-- an object of its own, whole: its row. -/
theorem own_obj {g : Nat} (h : w.ownsRow base e size (.slice (some ⟨g, 0, none⟩) 1 1) 1 xs) : w.heap[g]? = some (.cells xs.toArray e (0, 0)) := by
  rcases h.2 with ⟨h0, _⟩ | ⟨g', cap, cur, h0, _, hg, _, _, hs, ht⟩
  · injection h0 with h0; cases h0
  · injection h0 with h1 h2 h3
    injection h1 with h1; injection h1 with h1
    subst h1; subst h3
    rw [hg]
    have : cur.toList = xs := by rw [← ht, List.take_of_length_le (by simp [hs])]
    rw [← this]
theorem obj_own {g : Nat} (K : w.heap[g]? = some (.cells xs.toArray e (0, 0))) (hb : base ≤ g) (hl : xs.length = size) : w.ownsRow base e size (.slice (some ⟨g, 0, none⟩) 1 1) 1 xs :=
  ⟨by omega, .inr ⟨g, 1, xs.toArray, rfl, hb, K, Nat.le_refl _, by unfold maxLen; omega, by simp [hl], by simp [← hl]⟩⟩
theorem own_at (h : w.ownsRow base e 1 v n xs) {k : Nat} (hk : k < n) : ∃ g c u, v = .slice (some ⟨g, 0, none⟩) n c ∧ n ≤ c ∧ c ≤ maxLen ∧ xs[k]? = some u ∧ w.cell? ⟨g, k, none⟩ = some u := by
  rcases h.2 with ⟨_, h0⟩ | ⟨g, cap, cur, rfl, _, hg, hnc, hm, hs, ht⟩
  · omega
  · obtain ⟨u, hu⟩ : ∃ u, xs[k]? = some u := ⟨_, List.getElem?_eq_getElem (by have := h.1; omega)⟩
    refine ⟨g, cap, u, rfl, hnc, hm, hu, blk_cell hg ?_⟩
    rw [← ht] at hu
    have := get_take hu
    simpa using this
/-- a cell of an own row is written. -/
theorem own_set (h : w.ownsRow base e size v n xs) {i : Nat} (hi : i < n * size) (u : Value) :
    ∃ g c, v = .slice (some ⟨g, 0, none⟩) n c ∧ (w.setCell ⟨g, i, none⟩ u).ownsRow base e size v n (xs.set i u) ∧ w.grownBy (w.setCell ⟨g, i, none⟩ u) (some g) ∧ w.frozen? ⟨g, i, none⟩ = false ∧ w.cell? ⟨g, i, none⟩ = xs[i]? ∧ g < w.heap.size := by
  rcases h.2 with ⟨_, h0⟩ | ⟨g, cap, cur, rfl, hb, hg, hnc, hm, hs, ht⟩
  · subst h0; omega
  · refine ⟨g, cap, rfl, ⟨by simpa using h.1, .inr ⟨g, cap, _, rfl, hb, blk_set hg, hnc, hm, by simpa using hs, ?_⟩⟩, ⟨rfl, rfl, rfl, by simp [World.setCell], fun k hk hn => Below.heap_setCell _ _ _ _ (fun e => hn (by simp at e; rw [e]))⟩, blk_free hg, ?_, blk_lt hg⟩
    · rw [Array.toList_setIfInBounds, List.take_set, ht]
    · rw [cell_of_row _ _ _ _ _ _ hg, ← ht, List.getElem?_take_of_lt hi]; simp
end
/-- a slice's cells over a row of one's own. -/
theorem run_copyO {P : Program} {w : World} (dT sT ty : TypeId) (elem : TypeId) (hu : P.underlying dT = some (.slice elem)) (hsz : (P.info? elem).map (·.size) = some 1)
    {dp A : Option Addr} {dLen dCap sLen sCap off base n m : Nat} {e : TypeId} {v : Value} {xs ys : List Value}
    (hm : m = min sLen dLen) (hv : w.ownsRow base e 1 v n xs) (hfit : off + m ≤ n) (hdp : 0 < m → ∀ g c, v = .slice (some ⟨g, 0, none⟩) n c → dp = some ⟨g, off, none⟩) (hy : Shows w 1 A sLen ys) (h1 : ∀ u ∈ ys, u.oneCell' = true) :
    ∃ w', (Builtin.copy_ #[dT, sT] ty #[.slice dp dLen dCap, .slice A sLen sCap]).run P w = .ok (goInt m) w' ∧ w'.ownsRow base e 1 v n (splice xs off (ys.take m)) ∧ w.grownBy w' v.ownBlock := by
  have hyl : ys.length = sLen := by have := hy.1; omega
  have hml : (ys.take m).length = m := by rw [List.length_take]; omega
  have hxl := hv.1
  by_cases h0 : m = 0
  · subst h0
    exact ⟨w, run_copy_none (P := P) w dT sT ty elem dp A dLen dCap sLen sCap hu hsz hm.symm, by simpa [splice] using hv, ⟨rfl, rfl, rfl, Nat.le_refl _, fun _ _ _ => rfl⟩⟩
  · rcases hv.2 with ⟨_, hn⟩ | ⟨g, cap, cur, rfl, hb, hg, hnc, hmx, hsz', ht⟩
    · omega
    · obtain rfl := hdp (by omega) g cap rfl
      obtain ⟨ad, rfl, _, hc⟩ := hy.2 (by omega)
      have hsz2 : cur.size = cap := by omega
      have hsrc : ∀ j u, (ys.take m)[j]? = some u → w.cell? (ad.add j) = some u := fun j u hu => hc j u (get_take hu)
      have hr := run_copy_row (P := P) w dT sT ty elem g off dLen dCap ad sLen sCap cur e _ hu hsz hg (hml.trans hm) hsrc (by rw [hml]; omega) (fun u hu => h1 u (List.mem_of_mem_take hu))
      rw [hml] at hr
      refine ⟨_, hr, ⟨by rw [length_splice _ _ _ (by rw [hml]; omega)]; exact hxl, .inr ⟨g, cap, _, rfl, hb, setRow_heap w g _ _ e _ hg, hnc, hmx, ?_, ?_⟩⟩, setRow_grown w g _⟩
      · simp [hml]; omega
      · rw [← ht]
        unfold splice
        apply List.ext_getElem?
        intro j
        simp only [List.getElem?_take, List.getElem?_append, List.length_append, List.length_take, List.getElem?_drop, Array.length_toList, hsz2, hml, Nat.mul_one]
        repeat' split
        all_goals first | rfl | omega | (congr 1; omega) | skip
theorem wpList_copyO {P : Program} {w : World} {ops : Array Oper} {rest : List Oper} {o : Oper} {a : Act} {Q : Exit → Act → World → Prop} (hgd : o.guard = none) (d s : Operand) (dT sT : TypeId)
    (ho : o.op = .call { callee := .builtin .copy, args := #[d, s], argTypes := #[dT, sT] }) (elem : TypeId) (hu : P.underlying dT = some (.slice elem)) (hsz : (P.info? elem).map (·.size) = some 1)
    {dp A : Option Addr} {dLen dCap sLen sCap off base n m : Nat} {e : TypeId} {v : Value} {xs ys : List Value} (hd : a.eval d = .slice dp dLen dCap) (hs : a.eval s = .slice A sLen sCap)
    (hm : m = min sLen dLen) (hv : w.ownsRow base e 1 v n xs) (hfit : off + m ≤ n) (hdp : 0 < m → ∀ g c, v = .slice (some ⟨g, 0, none⟩) n c → dp = some ⟨g, off, none⟩) (hy : Shows w 1 A sLen ys) (h1 : ∀ u ∈ ys, u.oneCell' = true)
    (h : ∀ w', w'.ownsRow base e 1 v n (splice xs off (ys.take m)) → w.grownBy w' v.ownBlock → wpList P ops Q rest (a.put o.dst (goInt m)) w') :
    wpList P ops Q (o :: rest) a w := by
  refine wpList_plain hgd fun K hK => ?_
  obtain ⟨w', hrun, ho', hg'⟩ := run_copyO (P := P) dT sT o.type elem hu hsz (sCap := sCap) (dCap := dCap) hm hv hfit hdp hy h1
  unfold Oper.wp
  simp [execOp, ho, resolve, invoke, builtin, hd, hs, hrun, Result.andThen]
  exact hK _ _ (h w' ho' hg')
theorem wp_copyO {P : Program} {w : World} {o : Oper} {a : Act} {K : Act → World → Prop} {Q : Exit → Act → World → Prop} (d s : Operand) (dT sT : TypeId)
    (ho : o.op = .call { callee := .builtin .copy, args := #[d, s], argTypes := #[dT, sT] }) (elem : TypeId) (hu : P.underlying dT = some (.slice elem)) (hsz : (P.info? elem).map (·.size) = some 1)
    {dp A : Option Addr} {dLen dCap sLen sCap off base n m : Nat} {e : TypeId} {v : Value} {xs ys : List Value} (hd : a.eval d = .slice dp dLen dCap) (hs : a.eval s = .slice A sLen sCap)
    (hm : m = min sLen dLen) (hv : w.ownsRow base e 1 v n xs) (hfit : off + m ≤ n) (hdp : 0 < m → ∀ g c, v = .slice (some ⟨g, 0, none⟩) n c → dp = some ⟨g, off, none⟩) (hy : Shows w 1 A sLen ys) (h1 : ∀ u ∈ ys, u.oneCell' = true)
    (h : ∀ w', w'.ownsRow base e 1 v n (splice xs off (ys.take m)) → w.grownBy w' v.ownBlock → K (a.put o.dst (goInt m)) w') :
    o.wp P a w K Q := by
  obtain ⟨w', hrun, ho', hg'⟩ := run_copyO (P := P) dT sT o.type elem hu hsz (sCap := sCap) (dCap := dCap) hm hv hfit hdp hy h1
  unfold Oper.wp
  simp [execOp, ho, resolve, invoke, builtin, hd, hs, hrun, Result.andThen]
  exact h w' ho' hg'
end Go.Proofs.Ytnbcmlphnllgeaa
