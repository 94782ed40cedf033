import Derived.Test.YtjdabmadpclbaaaBO
set_option linter.unusedVariables false
set_option linter.unusedSimpArgs false
namespace Go.Proofs.Ytjdabmadpclbaaa
open Go.RowKit
theorem erase_perm (l : List Fr) (i : Nat) (f : Fr) (h : l[i]? = some f) : l.Perm (f :: l.eraseIdx i) := by
  have hi := (List.getElem?_eq_some_iff.1 h).1
  have e : l = l.take i ++ f :: l.drop (i + 1) := by
    have := List.getElem?_eq_some_iff.1 h
    rw [← this.2, List.getElem_cons_drop, List.take_append_drop]
  rw [List.eraseIdx_eq_take_drop_succ]
  conv => lhs; rw [e]
  exact List.perm_middle
theorem set_same {α : Type} {l : List α} {i : Nat} {s : α} (h : l[i]? = some s) : l.set i s = l := by
  obtain ⟨hi, rfl⟩ := List.getElem?_eq_some_iff.1 h
  exact List.set_getElem_self hi
def FT : List Fi := [⟨0, 0, false⟩, ⟨0, 0, true⟩]
theorem lets_ft {s : BSt} (h : s.fl = FT) {f : Fr} (hf : f.ok) : s.lets f = true := by
  have e := and0 _ (xor_bd 0 f.id (by omega) hf)
  rcases f with ⟨id, ext, len, b0, b1, b2, b3, b4, b5, b6, b7⟩
  simp only at e
  cases ext <;> simp [BSt.lets, h, FT, fits, e]
/-- what was sent waits at two nodes, and what was told the third one took. -/
def Once (ss : List BSt) (xs : List Fr) (many : Nat) : Prop :=
  ∃ s0 s1 s2, ss = [s0, s1, s2] ∧ xs.Perm (s0.tx ++ s1.tx) ∧ s2.tx = [] ∧ s2.fl = FT ∧ s2.rx.length = min many 4 ∧ s2.lost = decide (4 < many) ∧ ∀ x ∈ s0.tx ++ s1.tx, x.may = true ∧ x.ok
theorem once_len {ss : List BSt} {xs : List Fr} {many : Nat} (h : Once ss xs many) : tot ss = xs.length := by
  obtain ⟨s0, s1, s2, rfl, h1, h2, _⟩ := h
  have := h1.length_eq
  simp [tot, h2] at this ⊢
  omega
theorem once_send {ss : List BSt} {xs : List Fr} {i : Nat} {s : BSt} {f : Fr} (h : Once ss xs 0) (hi : i < 2) (hs : ss[i]? = some s) (hm : f.may = true) (hf : f.ok) : Once (ss.set i { s with tx := s.tx ++ [f] }) (xs ++ [f]) 0 := by
  obtain ⟨s0, s1, s2, rfl, h1, h2, h3, h4, h5, h6⟩ := h
  have e : i = 0 ∨ i = 1 := by omega
  rcases e with rfl | rfl
  · injection hs with hs
    subst hs
    refine ⟨{ s0 with tx := s0.tx ++ [f] }, s1, s2, rfl, ?_, h2, h3, h4, h5, fun x hx => ?_⟩
    · refine (h1.append_right [f]).trans ?_
      simp only [List.append_assoc]
      exact List.Perm.append_left _ List.perm_append_comm
    · simp only [List.mem_append, List.mem_singleton] at hx
      rcases hx with (hx | hx) | hx
      · exact h6 x (by simp [hx])
      · subst hx; exact ⟨hm, hf⟩
      · exact h6 x (by simp [hx])
  · injection hs with hs
    subst hs
    refine ⟨s0, { s1 with tx := s1.tx ++ [f] }, s2, rfl, ?_, h2, h3, h4, h5, fun x hx => ?_⟩
    · rw [← List.append_assoc]; exact h1.append_right [f]
    · simp only [List.mem_append, List.mem_singleton] at hx
      rcases hx with hx | hx | hx
      · exact h6 x (by simp [hx])
      · exact h6 x (by simp [hx])
      · subst hx; exact ⟨hm, hf⟩
theorem done_perm {s : BSt} {f : Fr} (h : s.tx ≠ []) (hn : s.next = (f, true)) : s.tx.Perm (f :: s.done.tx) := by
  have hb := best_lt h
  have e := getD_at hb
  rw [next_eq h] at hn
  injection hn with hn _
  rw [hn] at e
  have hd : s.done.tx = s.tx.eraseIdx (best s.tx) := by simp [BSt.done, h]
  rw [hd]
  exact erase_perm _ _ _ e
theorem take3 {s : BSt} {f : Fr} {m : Nat} (hfl : s.fl = FT) (hr : s.rx.length = min m 4) (hl : s.lost = decide (4 < m)) (hm : f.may = true) (hf : f.ok) : (s.take f).1.fl = FT ∧ (s.take f).1.rx.length = min (m + 1) 4 ∧ (s.take f).1.lost = decide (4 < m + 1) := by
  have e := lets_ft hfl hf
  by_cases h4 : 4 ≤ s.rx.length
  · have : s.take f = ({ s with lost := true }, true) := by simp [BSt.take, hm, e, h4]
    rw [this]
    exact ⟨hfl, by simp only; omega, by simp; omega⟩
  · have : s.take f = ({ s with rx := s.rx ++ [f] }, true) := by simp [BSt.take, hm, e, h4]
    rw [this]
    refine ⟨hfl, by simp; omega, ?_⟩
    simp only [hl]
    rw [decide_eq_decide]
    omega
theorem once_turn {ss : List BSt} {xs : List Fr} {many pl : Nat} {f : Fr} (h : Once ss xs many) (hp : pick ss = (pl, f, true)) : ∃ ys, xs.Perm (f :: ys) ∧ ∀ zs : List Fr, zs.Perm ys → Once (turnL false ss) zs (many + 1) := by
  obtain ⟨s, g1, g2, g3, g4⟩ := turn_map false hp
  obtain ⟨s0, s1, s2, rfl, h1, h2, h3, h4, h5, h6⟩ := h
  have hpl : pl < 3 := (List.getElem?_eq_some_iff.1 g1).1
  have hgd : ([s0, s1, s2] : List BSt).getD pl d0 = s := by simp [List.getD, g1]
  have ht : turnL false [s0, s1, s2] = skN f pl 3 (([s0, s1, s2] : List BSt).set pl s.done) := by
    unfold turnL
    rw [hp]
    simp only [Bool.true_eq_false, Bool.false_eq_true, if_false, hgd]
    rfl
  have e : pl = 0 ∨ pl = 1 ∨ pl = 2 := by omega
  rcases e with rfl | rfl | rfl
  · injection g1 with g1
    subst g1
    have hdp := done_perm g2 g3
    have hfm := h6 f (by rw [List.mem_append]; exact .inl (hdp.symm.subset (by simp)))
    have t3 := take3 h3 h4 h5 hfm.1 hfm.2
    have ht' : turnL false [s0, s1, s2] = [s0.done, (s1.take f).1, (s2.take f).1] := by rw [ht]; rfl
    refine ⟨s0.done.tx ++ s1.tx, h1.trans (hdp.append_right s1.tx), fun zs hz => ⟨_, _, _, ht', ?_, by rw [take_tx]; exact h2, t3.1, t3.2.1, t3.2.2, fun x hx => ?_⟩⟩
    · rw [take_tx]; exact hz
    · rw [take_tx] at hx
      refine h6 x ?_
      rcases List.mem_append.1 hx with hx | hx
      · exact List.mem_append.2 (.inl (hdp.symm.subset (by simp [hx])))
      · exact List.mem_append.2 (.inr hx)
  · injection g1 with g1
    subst g1
    have hdp := done_perm g2 g3
    have hfm := h6 f (by rw [List.mem_append]; exact .inr (hdp.symm.subset (by simp)))
    have t3 := take3 h3 h4 h5 hfm.1 hfm.2
    have ht' : turnL false [s0, s1, s2] = [(s0.take f).1, s1.done, (s2.take f).1] := by rw [ht]; rfl
    refine ⟨s0.tx ++ s1.done.tx, h1.trans ((List.Perm.append_left s0.tx hdp).trans List.perm_middle), fun zs hz => ⟨_, _, _, ht', ?_, by rw [take_tx]; exact h2, t3.1, t3.2.1, t3.2.2, fun x hx => ?_⟩⟩
    · rw [take_tx]; exact hz
    · rw [take_tx] at hx
      refine h6 x ?_
      rcases List.mem_append.1 hx with hx | hx
      · exact List.mem_append.2 (.inl hx)
      · exact List.mem_append.2 (.inr (hdp.symm.subset (by simp [hx])))
  · injection g1 with g1
    subst g1
    exact absurd h2 g2
/-- the last place of f among the first k. -/
def lastTo (l : List Fr) (f : Fr) : Nat → Int
  | 0 => -1
  | k + 1 => if (l.getD k Fr.zero == f) = true then k else lastTo l f k
theorem lastTo_at {l : List Fr} {f : Fr} : ∀ k, k ≤ l.length → (lastTo l f k = -1 ∧ ∀ j, j < k → l[j]? ≠ some f) ∨ ∃ i : Nat, lastTo l f k = i ∧ i < k ∧ l[i]? = some f
  | 0, _ => .inl ⟨rfl, fun j h => by omega⟩
  | k + 1, hk => by
    have hg := getD_at (show k < l.length by omega)
    rw [lastTo]
    by_cases h : (l.getD k Fr.zero == f) = true
    · rw [if_pos h]
      refine .inr ⟨k, rfl, by omega, ?_⟩
      rw [hg, eq_of_beq h]
    · rw [if_neg h]
      rcases lastTo_at (l := l) (f := f) k (by omega) with ⟨h1, h2⟩ | ⟨i, h1, h2, h3⟩
      · refine .inl ⟨h1, fun j hj => ?_⟩
        rcases Nat.lt_succ_iff_lt_or_eq.1 hj with h' | rfl
        · exact h2 j h'
        · rw [hg]; intro e; injection e with e; exact h (by rw [e]; exact beq_self_eq_true f)
      · exact .inr ⟨i, h1, by omega, h3⟩
theorem lastTo_mem {l : List Fr} {f : Fr} (h : f ∈ l) : ∃ i : Nat, lastTo l f l.length = i ∧ i < l.length ∧ l[i]? = some f := by
  rcases lastTo_at (l := l) (f := f) l.length (Nat.le_refl _) with ⟨_, h2⟩ | h3
  · obtain ⟨j, hj⟩ := List.getElem?_of_mem h
    exact absurd hj (h2 j (List.getElem?_eq_some_iff.1 hj).1)
  · exact h3
/-- nodes, and a list of frames of one's own beside them. -/
def NB (w0 : World) (B C : Nat) (w : World) (va vb : Value) (gs hs : List Nat) (ss ts : List BSt) (F G : Nat → Prop) : Prop := Bxs w 71 gs ss F ∧ Bxs w 53 hs ts G ∧ Ext w0 w ∧ C ≤ w.heap.size ∧ (∀ k, F k → w0.heap.size ≤ k ∧ ¬ (B ≤ k ∧ k < C)) ∧ (∀ k, G k → w0.heap.size ≤ k ∧ ¬ (B ≤ k ∧ k < C)) ∧ (∀ k, F k → ¬ G k) ∧ w.ownsRow w0.heap.size 41 1 va gs.length (ptrs gs) ∧ w.ownsRow w0.heap.size 43 1 vb hs.length (ptrs hs) ∧ (∀ b, va.ownBlock = some b → ¬ F b ∧ ¬ G b) ∧ (∀ b, vb.ownBlock = some b → ¬ F b ∧ ¬ G b)
def NV (w0 : World) (B C : Nat) (w : World) (va vb : Value) (gs hs : List Nat) (ss ts : List BSt) (v : Value) (xs : List Fr) (r : Nat) : Prop :=
  ∃ F G, NB w0 B C w va vb gs hs ss ts F G ∧ OwnS w w0.heap.size 34 11 v xs.length (frs xs) ∧ (∀ b, v.ownBlock = some b → ¬ F b ∧ ¬ G b ∧ va.ownBlock ≠ some b ∧ vb.ownBlock ≠ some b) ∧ ¬ F r ∧ ¬ G r ∧ v.ownBlock ≠ some r ∧ r < w.heap.size
section
variable {w0 w w' : World} {B C : Nat} {va vb v v' : Value} {gs hs : List Nat} {ss ss' ts : List BSt} {xs ys : List Fr} {r : Nat}
theorem NV.nodes (h : NV w0 B C w va vb gs hs ss ts v xs r) : Nodes w0 B C w va vb gs hs gs hs ss ts := by
  obtain ⟨F, G, h, _⟩ := h
  exact ⟨F, G, h⟩
theorem NV.own (h : NV w0 B C w va vb gs hs ss ts v xs r) : OwnS w w0.heap.size 34 11 v xs.length (frs xs) := by obtain ⟨F, G, _, h, _⟩ := h; exact h
theorem NV.of (h : Nodes w0 B C w va vb gs hs gs hs ss ts) {o : Obj} (hr : r = w.heap.size) : NV w0 B C (w.alloc o) va vb gs hs ss ts (.slice none 0 0) [] r := by
  have h2 := h.ext (show Ext w (w.alloc o) from (Ext.refl _).alloc _)
  obtain ⟨F, G, a, b, h⟩ := h
  have x : Ext w (w.alloc o) := (Ext.refl _).alloc _
  obtain ⟨c, d, e, f, g, i, j, k, l⟩ := h
  exact ⟨F, G, ⟨a.ext x, b.ext x, c.trans x, Nat.le_trans d x.size, e, f, g, own_ext i x, own_ext j x, k, l⟩, OwnS.nil, (fun b e => nomatch e), (fun hF => by have := a.lt r hF; omega), (fun hG => by have := b.lt r hG; omega), (fun e => nomatch e), by simp; omega⟩
theorem NV.ext (h : NV w0 B C w va vb gs hs ss ts v xs r) (x : Ext w w') : NV w0 B C w' va vb gs hs ss ts v xs r := by
  obtain ⟨F, G, ⟨a, b, c, d, e, f, g, i, j, k, l⟩, o, p, p1, p2, p3, p4⟩ := h
  exact ⟨F, G, ⟨a.ext x, b.ext x, c.trans x, Nat.le_trans d x.size, e, f, g, own_ext i x, own_ext j x, k, l⟩, o.ext x, p, p1, p2, p3, Nat.lt_of_lt_of_le p4 x.size⟩
theorem NV.no (h : NV w0 B C w va vb gs hs ss ts v xs r) : NV w0 0 0 w va vb gs hs ss ts v xs r := by
  obtain ⟨F, G, ⟨a, b, c, d, e, f, g, i, j, k, l⟩, o, p⟩ := h
  exact ⟨F, G, ⟨a, b, c, Nat.zero_le _, fun q hq => ⟨(e q hq).1, by omega⟩, fun q hq => ⟨(f q hq).1, by omega⟩, g, i, j, k, l⟩, o, p⟩
theorem NV.hole (h : NV w0 B C w va vb gs hs ss ts v xs r) (x : Ext w w') : NV w0 w.heap.size w'.heap.size w' va vb gs hs ss ts v xs r := by
  obtain ⟨F, G, ⟨a, b, c, d, e, f, g, i, j, k, l⟩, o, p⟩ := h
  exact ⟨F, G, ⟨a.ext x, b.ext x, c.trans x, Nat.le_refl _, fun q hq => ⟨(e q hq).1, by have := a.lt q hq; omega⟩, fun q hq => ⟨(f q hq).1, by have := b.lt q hq; omega⟩, g, own_ext i x, own_ext j x, k, l⟩, o.ext x, p.1, p.2.1, p.2.2.1, p.2.2.2.1, Nat.lt_of_lt_of_le p.2.2.2.2 x.size⟩
theorem NV.postA (h : NV w0 B C w va vb gs hs ss ts v xs r) : ∃ F, Bxs w 71 gs ss F ∧ (∀ b, va.ownBlock = some b → ¬ F b) ∧ ∀ w', BxsPost w 71 gs ss' F w' → NV w0 B C w' va vb gs hs ss' ts v xs r ∧ HoleKept B C w w' ∧ w'.heap[r]? = w.heap[r]? := by
  obtain ⟨F, G, ⟨a, b, c, d, e, f, g, i, j, k, l⟩, o, pv, p1, p2, p3, p4⟩ := h
  refine ⟨F, a, fun q hq => (k q hq).1, fun w' ⟨F', p, q, r'⟩ => ⟨⟨F', G, ⟨p, b.kept q (fun u hu h => g u h hu), c.kept q (fun u hu => (e u hu).1), Nat.le_trans d q.size, ?_, f, ?_, own_keptF i q (fun u hu => (k u hu).1), own_keptF j q (fun u hu => (l u hu).1), ?_, ?_⟩, o.keptF q (fun u hu => (pv u hu).1), fun u hu => ?_, (fun hF => (r' r hF).elim p1 (fun hn => by omega)), p2, p3, Nat.lt_of_lt_of_le p4 q.size⟩, fun u h1 h2 => q.block u (by omega) (fun hF => (e u hF).2 ⟨h1, h2⟩), q.block r p4 p1⟩⟩
  · intro u hu
    exact (r' u hu).elim (e u) (fun hn => ⟨Nat.le_trans c.size hn, by omega⟩)
  · intro u hu hG
    exact (r' u hu).elim (fun hF => g u hF hG) (fun hn => by have := b.lt u hG; omega)
  · intro u hu
    exact ⟨fun hF => (r' u hF).elim (k u hu).1 (fun hn => by have := own_lt i hu; omega), (k u hu).2⟩
  · intro u hu
    exact ⟨fun hF => (r' u hF).elim (l u hu).1 (fun hn => by have := own_lt j hu; omega), (l u hu).2⟩
  · exact ⟨fun hF => (r' u hF).elim (pv u hu).1 (fun hn => by have := (o.lt u hu).2; omega), (pv u hu).2⟩
theorem NV.grow (h : NV w0 B C w va vb gs hs ss ts v xs r) (hv : OwnS w' w0.heap.size 34 11 v' ys.length (frs ys)) (hg : w.grownBy w' v.ownBlock) (hat : v'.ownBlock = v.ownBlock ∨ v'.ownBlock = some w.heap.size) : NV w0 0 0 w' va vb gs hs ss ts v' ys r ∧ w'.heap[r]? = w.heap[r]? := by
  obtain ⟨F, G, ⟨a, b, c, d, e, f, g, i, j, k, l⟩, o, p, p1, p2, p3, p4⟩ := h
  have kp : Kept (fun q => v.ownBlock = some q) w w' := .of_grown hg (fun _ h => h)
  refine ⟨⟨F, G, ⟨a.kept kp (fun q hq h => (p q h).1 hq), b.kept kp (fun q hq h => (p q h).2.1 hq), Ext.of_grown c hg (fun q h => (o.lt q h).1), Nat.zero_le _, fun q hq => ⟨(e q hq).1, by omega⟩, fun q hq => ⟨(f q hq).1, by omega⟩, g, own_keptF i kp (fun q hq h => (p q h).2.2.1 hq), own_keptF j kp (fun q hq h => (p q h).2.2.2 hq), k, l⟩, hv, fun q hq => ?_, p1, p2, (fun e => hat.elim (fun h => p3 (h ▸ e)) (fun h => by rw [e] at h; injection h with h; omega)), Nat.lt_of_lt_of_le p4 hg.size⟩, hg.block r p4 (fun e => p3 e.symm)⟩
  rcases hat with h | h
  · exact p q (h ▸ hq)
  · rw [hq] at h
    injection h with h
    refine ⟨fun hF => by have := a.lt q hF; omega, fun hG => by have := b.lt q hG; omega, fun e1 => by have := own_lt i e1; omega, fun e1 => by have := own_lt j e1; omega⟩
theorem NV.renew (h : NV w0 B C w va vb gs hs ss ts v xs r) (x : Ext w w') (hv : w'.ownsRow w.heap.size 34 11 v' ys.length (frs ys)) : NV w0 B C w' va vb gs hs ss ts v' ys r := by
  obtain ⟨F, G, ⟨a, b, c, d, e, f, g, i, j, k, l⟩, o, p, p1, p2, p3, p4⟩ := h
  refine ⟨F, G, ⟨a.ext x, b.ext x, c.trans x, Nat.le_trans d x.size, e, f, g, own_ext i x, own_ext j x, k, l⟩, (OwnS.of_own hv).base_le c.size, fun q hq => ?_, p1, p2, (fun e => by have := (hv.lt r e).1; omega), Nat.lt_of_lt_of_le p4 x.size⟩
  have := (hv.lt q hq).1
  exact ⟨fun hF => by have := a.lt q hF; omega, fun hG => by have := b.lt q hG; omega, fun e1 => by have := own_lt i e1; omega, fun e1 => by have := own_lt j e1; omega⟩
end
theorem wpList_bsF {w : World} {ops : Array Oper} {rest : List Oper} {o : Oper} {a : Act} {Q : Exit → Act → World → Prop} {f : Fr} (hgd : o.guard = none) (x : Operand) (ho : o.op = .buildSlice 51 1 #[(0, x)]) (hx : a.eval x = .agg f.vals.toArray)
    (h : wpList Try.prog ops Q rest (a.put o.dst (.slice (some ⟨w.heap.size, 0, none⟩) 1 1)) (w.alloc (.cells f.vals.toArray 34))) : wpList Try.prog ops Q (o :: rest) a w := by
  obtain ⟨i, hi, hz, hsize, hby⟩ := el45.info
  refine wpList_buildSlice hgd 51 34 1 #[(0, x)] ho f.vals.toArray i _ Try.underlying51 hi hz (by rw [hsize]; decide) (by rw [hsize]; decide) ?_ h
  rw [hsize]
  simp only [List.map_toArray, List.map_cons, List.map_nil, hx]
  exact fill_fr f _ rfl
theorem Nodes.base {w00 w0 w : World} {va vb : Value} {ga gb gs hs : List Nat} {ss ts : List BSt} (h : Nodes w0 0 0 w va vb ga gb gs hs ss ts) (x : Ext w00 w0) : Nodes w00 0 0 w va vb ga gb gs hs ss ts := by
  obtain ⟨F, G, a, b, c, d, e, f, g, i, j, k, l⟩ := h
  exact ⟨F, G, a, b, x.trans c, d, fun q hq => ⟨Nat.le_trans x.size (e q hq).1, by omega⟩, fun q hq => ⟨Nat.le_trans x.size (f q hq).1, by omega⟩, g, own_base i x.size, own_base j x.size, k, l⟩
abbrev NW (w0 : World) (B C : Nat) (w : World) (A : Option Addr) (c : Nat) (A2 : Option Addr) (c2 : Nat) (gs hs : List Nat) (ss ts : List BSt) (v : Value) (xs : List Fr) (r : Nat) : Prop := NV w0 B C w (.slice A gs.length c) (.slice A2 hs.length c2) gs hs ss ts v xs r
section
variable {w0 w w' : World} {B C c c2 : Nat} {A A2 : Option Addr} {gs hs : List Nat} {ss ts ss' ts' : List BSt} {v : Value} {xs : List Fr} {r : Nat}
theorem NW.nn (h : NW w0 B C w A c A2 c2 gs hs ss ts v xs r) : NN w0 B C w A c A2 c2 gs hs ss ts := NV.nodes h
theorem turn_w {pl : Nat} {f : Fr} {fd : Bool} (lost : Bool) (h : NW w0 B C w A c A2 c2 gs hs ss ts v xs r) (h9 : gs.length ≤ 100) (hp : pick ss = (pl, f, fd)) (ht : turnL lost ss = ss') : Calls Try.prog 15 #[.bool lost, .slice A gs.length c] w fun e w' => e = .returned (.tuple #[.int .i64 pl, .agg f.vals.toArray, .bool fd]) ∧ NW w0 B C w' A c A2 c2 gs hs ss' ts v xs r ∧ HoleKept B C w w' ∧ w'.heap[r]? = w.heap[r]? := by
  have sh := NN.shA h.nn
  obtain ⟨h1, h2⟩ := NN.cmA h.nn
  obtain ⟨F, a, hF, hpost⟩ := NV.postA (ss' := ss') h
  have := turn_any (c := c) lost a sh rfl h1 (fun ad e => hF ad.block (by rw [e]; rfl)) h9 h2
  rw [hp, ht] at this
  exact this.mono fun e w' ⟨r, q⟩ => ⟨r, hpost w' q⟩
theorem send_w {i g : Nat} {s s' : BSt} {f : Fr} {n : Int} (h : NW w0 B C w A c A2 c2 gs hs ss ts v xs r) (hg : gs[i]? = some g) (hs2 : ss[i]? = some s) (hf : f.ok) (e : s.send f = (s', n)) : Calls Try.prog 13 #[.pointer (some ⟨g, 0, none⟩), .agg f.vals.toArray] w fun e w' => e = .returned (.int .i64 n) ∧ NW w0 B C w' A c A2 c2 gs hs (ss.set i s') ts v xs r ∧ HoleKept B C w w' ∧ w'.heap[r]? = w.heap[r]? := by
  obtain ⟨F, a, hF, hpost⟩ := NV.postA (ss' := ss.set i s') h
  obtain ⟨Fi, hB, hst⟩ := a.step hg hs2
  have := send_any hB f hf
  rw [e] at this
  exact this.mono fun _ w' ⟨r, q⟩ => ⟨r, hpost w' (hst _ _ q)⟩
end
end Go.Proofs.Ytjdabmadpclbaaa
