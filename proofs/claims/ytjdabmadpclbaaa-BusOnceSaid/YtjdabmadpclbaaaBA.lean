import Derived.Test.YtjdabmadpclbaaaZE
import Derived.Test.YtjdabmadpclbaaaOwnS
import Derived.Deep.LoopGhost
import Derived.Deep.DeepCutAuto
import Derived.Deep.CutBlock
set_option linter.unusedVariables false
set_option linter.unusedSimpArgs false
namespace Go.Proofs.Ytjdabmadpclbaaa
open Go.RowKit
theorem results_srs {fn : Func} {q p u : Tmp} (h : fn.results = #[.tmp q, .cell p 34, .tmp u]) {w : World} {tmps : Array Value} {g : Nat} {t : TypeId} {f : Fr} {fr : Nat × Nat}
    (hp : tmps.getD p undef = .pointer (some ⟨g, 0, none⟩)) (hg : w.heap[g]? = some (.cells f.vals.toArray t fr)) :
    (results fn tmps).run Try.prog w = .ok (.tuple #[tmps.getD q undef, .agg f.vals.toArray, tmps.getD u undef]) w := by
  have e : (results fn tmps).run Try.prog w = ((asAddr (tmps.getD p undef)).run Try.prog w).andThen fun a w₁ => ((loadVar 34 a).run Try.prog w₁).andThen fun v w₂ => .ok (.tuple #[tmps.getD q undef, v, tmps.getD u undef]) w₂ := by
    simp only [results, h]
    simp [Sem.run_bind, Result.andThen]
  rw [e, hp]
  simp only [asAddr, Sem.run_pure, Result.andThen_ok, run_loadVar_mid w g 0 34 f.vals _ (frAt hg) Try.underlying34 rfl size37]
abbrev ptr (g : Nat) : Value := .pointer (some ⟨g, 0, none⟩)
def ptrs (gs : List Nat) : List Value := gs.map ptr
/-- several boxes, apart from one another. -/
def Bxs (w : World) (ty : TypeId) (gs : List Nat) (ss : List BSt) (F : Nat → Prop) : Prop :=
  gs.length = ss.length ∧ (∀ k, F k → k < w.heap.size) ∧ ∃ Fs : Nat → Nat → Prop, (∀ i g s, gs[i]? = some g → ss[i]? = some s → BxC w ty g s (Fs i)) ∧ (∀ i k, i < gs.length → Fs i k → F k) ∧ (∀ i j k, i < gs.length → j < gs.length → i ≠ j → Fs i k → ¬ Fs j k)
def BxsPost (w : World) (ty : TypeId) (gs : List Nat) (ss : List BSt) (F : Nat → Prop) (w' : World) : Prop := ∃ F', Bxs w' ty gs ss F' ∧ Kept F w w' ∧ ∀ k, F' k → F k ∨ w.heap.size ≤ k
section
variable {w w' w2 : World} {ty : TypeId} {gs : List Nat} {ss ss' : List BSt} {F G : Nat → Prop}
theorem Bxs.kept (h : Bxs w ty gs ss F) (k : Kept G w w') (hn : ∀ i, F i → ¬ G i) : Bxs w' ty gs ss F := by
  obtain ⟨h1, h2, Fs, h3, h4, h5⟩ := h
  exact ⟨h1, fun k' hk => Nat.lt_of_lt_of_le (h2 k' hk) k.size, Fs, fun i g s hg hs => (h3 i g s hg hs).kept k (fun j hj => hn j (h4 i j (List.getElem?_eq_some_iff.1 hg).1 hj)), h4, h5⟩
theorem Bxs.ext (h : Bxs w ty gs ss F) (x : Ext w w') : Bxs w' ty gs ss F := h.kept (G := fun _ => False) (.of_ext x) (fun _ _ e => e)
theorem Bxs.lt (h : Bxs w ty gs ss F) : ∀ k, F k → k < w.heap.size := h.2.1
theorem Bxs.len (h : Bxs w ty gs ss F) : gs.length = ss.length := h.1
theorem Bxs.at_ (h : Bxs w ty gs ss F) {i : Nat} (hi : i < ss.length) : ∃ g s, gs[i]? = some g ∧ ss[i]? = some s ∧ ss.getD i (BSt.new []) = s := by
  have hg : i < gs.length := by rw [h.1]; exact hi
  exact ⟨_, _, List.getElem?_eq_getElem hg, List.getElem?_eq_getElem hi, by simp [List.getD, List.getElem?_eq_getElem hi]⟩
theorem Bxs.get (h : Bxs w ty gs ss F) {i g : Nat} {s : BSt} (hg : gs[i]? = some g) (hs : ss[i]? = some s) : ∃ Fi, BxC w ty g s Fi := by
  obtain ⟨h1, h2, Fs, h3, h4, h5⟩ := h
  exact ⟨_, h3 i g s hg hs⟩
theorem Bxs.ok (h : Bxs w ty gs ss F) : ∀ s ∈ ss, s.ok := by
  intro s hs
  obtain ⟨i, hi, rfl⟩ := List.getElem_of_mem hs
  have hg : i < gs.length := by rw [h.1]; exact hi
  obtain ⟨_, b⟩ := h.get (List.getElem?_eq_getElem hg) (List.getElem?_eq_getElem hi)
  exact b.ok
/-- one of them changes. -/
theorem Bxs.step (h : Bxs w ty gs ss F) {i g : Nat} {s : BSt} (hg : gs[i]? = some g) (hs : ss[i]? = some s) : ∃ Fi, BxC w ty g s Fi ∧ ∀ s' w', BxPost w ty g s' Fi w' → BxsPost w ty gs (ss.set i s') F w' := by
  obtain ⟨h1, h2, Fs, h3, h4, h5⟩ := h
  have hi : i < gs.length := (List.getElem?_eq_some_iff.1 hg).1
  refine ⟨Fs i, h3 i g s hg hs, fun s' w' ⟨Fi, a, b, c⟩ => ⟨fun k => F k ∨ Fi k, ⟨by rw [List.length_set]; exact h1, ?_, fun j => if j = i then Fi else Fs j, ?_, ?_, ?_⟩, b.mono (fun j _ hj => h4 i j hi hj), ?_⟩⟩
  · rintro k (hk | hk)
    · exact Nat.lt_of_lt_of_le (h2 k hk) b.size
    · exact a.lt k hk
  · intro j g2 s2 hg2 hs2
    by_cases hj : j = i
    · subst hj
      rw [hg] at hg2
      injection hg2 with hg2
      rw [List.getElem?_set_self (by rw [← h1]; exact hi)] at hs2
      injection hs2 with hs2
      subst hg2 hs2
      simpa using a
    · rw [List.getElem?_set_ne (Ne.symm hj)] at hs2
      simp only [hj, if_false]
      exact (h3 j g2 s2 hg2 hs2).kept b (fun k hk => h5 j i k (List.getElem?_eq_some_iff.1 hg2).1 hi hj hk)
  · intro j k hj hk
    by_cases e : j = i
    · simp only [e, if_true] at hk; exact .inr hk
    · simp only [e, if_false] at hk; exact .inl (h4 j k hj hk)
  · intro j l k hj hl hne hk hk2
    by_cases e : j = i
    · have e2 : l ≠ i := fun q => hne (by rw [e, q])
      simp only [e, if_true] at hk
      simp only [e2, if_false] at hk2
      rcases c k hk with q | q
      · exact h5 i l k hi hl (fun q => e2 q.symm) q hk2
      · have := h2 k (h4 l k hl hk2); omega
    · simp only [e, if_false] at hk
      by_cases e2 : l = i
      · simp only [e2, if_true] at hk2
        rcases c k hk2 with q | q
        · exact h5 j i k hj hi e hk q
        · have := h2 k (h4 j k hj hk); omega
      · simp only [e2, if_false] at hk2
        exact h5 j l k hj hl hne hk hk2
  · rintro k (hk | hk)
    · exact .inl hk
    · exact (c k hk).imp (h4 i k hi) id
theorem Bxs.same (h : Bxs w ty gs ss F) (x : Ext w w') : BxsPost w ty gs ss F w' := ⟨F, h.ext x, .of_ext x, fun _ hk => .inl hk⟩
theorem BxsPost.of (x : Ext w w') (h : BxsPost w' ty gs ss F w2) : BxsPost w ty gs ss F w2 := by
  obtain ⟨F', a, b, c⟩ := h
  exact ⟨F', a, Kept.trans' (.of_ext x) b, fun k hk => (c k hk).imp id (fun q => Nat.le_trans x.size q)⟩
theorem BxsPost.ext (h : BxsPost w ty gs ss F w') (x : Ext w' w2) : BxsPost w ty gs ss F w2 := by
  obtain ⟨F', a, b, c⟩ := h
  exact ⟨F', a.ext x, b.then x, c⟩
theorem BxsPost.trans (h : BxsPost w ty gs ss F w') (k : ∀ F', Bxs w' ty gs ss F' → BxsPost w' ty gs ss' F' w2) : BxsPost w ty gs ss' F w2 := by
  obtain ⟨F', a, b, c⟩ := h
  obtain ⟨F2, a2, b2, c2⟩ := k F' a
  refine ⟨F2, a2, b.trans b2 (fun i hi q => (c i q).elim id (fun q => by omega)), fun k hk => ?_⟩
  rcases c2 k hk with q | q
  · exact c k q
  · exact .inr (Nat.le_trans b.size q)
/-- one more of them, new. -/
theorem Bxs.push (h : Bxs w ty gs ss F) (x : Ext w w') {g : Nat} {s : BSt} {F1 : Nat → Prop} (b : BxC w' ty g s F1) (hn : ∀ k, F1 k → w.heap.size ≤ k) : Bxs w' ty (gs ++ [g]) (ss ++ [s]) (fun k => F k ∨ F1 k) := by
  have h' := h.ext x
  obtain ⟨h1, h2, Fs, h3, h4, h5⟩ := h'
  refine ⟨by simp [h1], ?_, fun j => if j = gs.length then F1 else Fs j, ?_, ?_, ?_⟩
  · rintro k (hk | hk)
    · exact h2 k hk
    · exact b.lt k hk
  · intro j g2 s2 hg2 hs2
    by_cases hj : j = gs.length
    · subst hj
      rw [List.getElem?_append_right (Nat.le_refl _)] at hg2
      rw [List.getElem?_append_right (by omega), h1] at hs2
      simp at hg2 hs2
      subst hg2 hs2
      simpa using b
    · have hl : j < gs.length := by have := (List.getElem?_eq_some_iff.1 hg2).1; simp at this; omega
      rw [List.getElem?_append_left hl] at hg2
      rw [List.getElem?_append_left (by omega)] at hs2
      simp only [hj, if_false]
      exact h3 j g2 s2 hg2 hs2
  · intro j k hj hk
    by_cases e : j = gs.length
    · simp only [e, if_true] at hk; exact .inr hk
    · simp only [e, if_false] at hk; exact .inl (h4 j k (by simp at hj; omega) hk)
  · intro j l k hj hl hne hk hk2
    simp at hj hl
    by_cases e : j = gs.length
    · have e2 : l ≠ gs.length := fun q => hne (by rw [e, q])
      simp only [e, if_true] at hk
      simp only [e2, if_false] at hk2
      have q1 := hn k hk
      have := h.lt k (h4 l k (by omega) hk2)
      omega
    · simp only [e, if_false] at hk
      by_cases e2 : l = gs.length
      · simp only [e2, if_true] at hk2
        have q1 := hn k hk2
        have := h.lt k (h4 j k (by omega) hk)
        omega
      · simp only [e2, if_false] at hk2
        exact h5 j l k (by omega) (by omega) hne hk hk2
theorem Bxs.nil : Bxs w ty [] [] (fun _ => False) := ⟨rfl, fun _ h => h.elim, fun _ _ => False, fun i g s h => by simp at h, fun i k h => by simp at h, fun i j k h => by simp at h⟩
/-- a pointer of the list. -/
theorem ptr_cell {A : Option Addr} {n i g : Nat} (sh : Shows w 1 A n (ptrs gs)) (hn : n = gs.length) (hg : gs[i]? = some g) : ∃ b off, A = some ⟨b, off, none⟩ ∧ b < w.heap.size ∧ w.cell? ⟨b, off + i, none⟩ = some (ptr g) := by
  have hi : i < n := by rw [hn]; exact (List.getElem?_eq_some_iff.1 hg).1
  obtain ⟨b, off, u, h1, h2, h3, h4⟩ := sh.cell hi
  refine ⟨b, off, h1, h2, ?_⟩
  rw [ptrs, List.getElem?_map, hg] at h3
  injection h3 with h3
  rw [h4, ← h3]
end
abbrev d0 : BSt := BSt.new []
/-- whose frame goes next, of the first k. -/
def pickTo (ss : List BSt) : Nat → Nat × Fr × Bool
  | 0 => (0, Fr.zero, false)
  | k + 1 => if ((ss.getD k d0).next.2 && (!(pickTo ss k).2.2 || decide ((ss.getD k d0).next.1.rank < (pickTo ss k).2.1.rank))) = true then (k, (ss.getD k d0).next.1, true) else pickTo ss k
def pick (ss : List BSt) : Nat × Fr × Bool := pickTo ss ss.length
theorem zero_ok : Fr.zero.ok := ⟨by simp [Fr.zero], by simp [Fr.zero]⟩
theorem next_ok {s : BSt} (h : s.ok) : s.next.1.ok := by
  by_cases h0 : s.tx = []
  · rw [next_zero h0]; exact zero_ok
  · rw [next_eq h0]; exact h.tx _ (List.mem_of_getElem? (getD_at (best_lt h0)))
theorem getD_ok {ss : List BSt} (h : ∀ s ∈ ss, s.ok) {k : Nat} (hk : k < ss.length) : (ss.getD k d0).ok := by
  have e : ss.getD k d0 = ss[k] := by simp [List.getD, List.getElem?_eq_getElem hk]
  rw [e]; exact h _ (List.getElem_mem hk)
theorem pickTo_ok {ss : List BSt} (h : ∀ s ∈ ss, s.ok) : ∀ k, k ≤ ss.length → (pickTo ss k).2.1.ok
  | 0, _ => zero_ok
  | k + 1, hk => by
    rw [pickTo]
    split
    · exact next_ok (getD_ok h (by omega))
    · exact pickTo_ok h k (by omega)
theorem pickTo_none {ss : List BSt} : ∀ k, (pickTo ss k).2.2 = false → pickTo ss k = (0, Fr.zero, false)
  | 0, _ => rfl
  | k + 1, h => by
    rw [pickTo] at h ⊢
    split at h
    · cases h
    · rw [if_neg (by assumption)]; exact pickTo_none k h
theorem pickTo_lt {ss : List BSt} : ∀ k, (pickTo ss k).2.2 = true → (pickTo ss k).1 < k
  | 0, h => by simp [pickTo] at h
  | k + 1, h => by
    rw [pickTo] at h ⊢
    split
    · simp
    · rw [if_neg (by assumption)] at h; have := pickTo_lt k h; omega
theorem pickTo_step {ss : List BSt} {k : Nat} {f b : Fr} {ok fd : Bool} {pl : Nat} (h1 : (ss.getD k d0).next = (f, ok)) (h2 : pickTo ss k = (pl, b, fd)) : pickTo ss (k + 1) = if (ok && (!fd || decide (f.rank < b.rank))) = true then (k, f, true) else (pl, b, fd) := by
  rw [pickTo, h1, h2]
theorem next_c {w : World} {g : Nat} {s : BSt} {F : Nat → Prop} {f : Fr} {b : Bool} (h : BxC w 71 g s F) (hn : s.next = (f, b)) : Calls Try.prog 28 #[.pointer (some ⟨g, 0, none⟩)] w fun e w' => e = .returned (.tuple #[.agg f.vals.toArray, .bool b]) ∧ Ext w w' := by
  have := next_any h
  rw [hn] at this
  exact this
theorem rnext_c {w : World} {g : Nat} {s : BSt} {F : Nat → Prop} {f : Fr} {b : Bool} (h : BxC w 53 g s F) (hn : s.next = (f, b)) : Calls Try.prog 30 #[.pointer (some ⟨g, 0, none⟩)] w fun e w' => e = .returned (.tuple #[.agg f.vals.toArray, .bool b]) ∧ Ext w w' := by
  have := rnx_any h
  rw [hn] at this
  exact this
end Go.Proofs.Ytjdabmadpclbaaa
