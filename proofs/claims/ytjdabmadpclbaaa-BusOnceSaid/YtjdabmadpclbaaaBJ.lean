import Derived.Test.YtjdabmadpclbaaaBI
set_option linter.unusedVariables false
set_option linter.unusedSimpArgs false
namespace Go.Proofs.Ytjdabmadpclbaaa
open Go.RowKit
abbrev NN (w0 : World) (B C : Nat) (w : World) (A : Option Addr) (c : Nat) (A2 : Option Addr) (c2 : Nat) (gs hs : List Nat) (ss ts : List BSt) : Prop := Nodes w0 B C w (.slice A gs.length c) (.slice A2 hs.length c2) gs hs gs hs ss ts
section
variable {w0 w w' : World} {B C c c2 : Nat} {A A2 : Option Addr} {gs hs : List Nat} {ss ts ss' ts' : List BSt}
theorem NN.shA (h : NN w0 B C w A c A2 c2 gs hs ss ts) : Shows w 1 A gs.length (ptrs gs) := Shows.of_own h.rowA
theorem NN.shB (h : NN w0 B C w A c A2 c2 gs hs ss ts) : Shows w 1 A2 hs.length (ptrs hs) := Shows.of_own h.rowB
theorem NN.cmA (h : NN w0 B C w A c A2 c2 gs hs ss ts) : gs.length ≤ c ∧ c ≤ maxLen := by
  obtain ⟨A', c', e, h1, h2, _⟩ := own_form h.rowA
  injection e with _ _ e
  subst e
  exact ⟨h1, h2⟩
theorem NN.cmB (h : NN w0 B C w A c A2 c2 gs hs ss ts) : hs.length ≤ c2 ∧ c2 ≤ maxLen := by
  obtain ⟨A', c', e, h1, h2, _⟩ := own_form h.rowB
  injection e with _ _ e
  subst e
  exact ⟨h1, h2⟩
/-- a cell of a block of one's own is written. -/
theorem Nodes.poke {va vb : Value} {ga gb : List Nat} {r : Nat} (h : Nodes w0 B C w va vb ga gb gs hs ss ts) (hB : B ≤ r) (hC : r < C) (h0 : w0.heap.size ≤ r) (hA : va.ownBlock ≠ some r) (hA2 : vb.ownBlock ≠ some r) (x : w.grownBy w' (some r)) : Nodes w0 B C w' va vb ga gb gs hs ss ts := by
  obtain ⟨F, G, a, b, c, d, e, f, g, i, j, k, l⟩ := h
  have kr : Kept (· = r) w w' := .of_grown x (fun b e => by injection e with e; exact e.symm)
  exact ⟨F, G, a.kept kr (fun q hq e1 => (e q hq).2 (by subst e1; exact ⟨hB, hC⟩)), b.kept kr (fun q hq e1 => (f q hq).2 (by subst e1; exact ⟨hB, hC⟩)), c.kept kr (fun q e1 => by omega), Nat.le_trans d x.size, e, f, g, own_keptF i kr (fun q hq e1 => hA (e1 ▸ hq)), own_keptF j kr (fun q hq e1 => hA2 (e1 ▸ hq)), k, l⟩
theorem first_n {pl : Nat} {f : Fr} {fd : Bool} (h : NN w0 B C w A c A2 c2 gs hs ss ts) (h9 : gs.length ≤ 100) (hp : pick ss = (pl, f, fd)) : Calls Try.prog 11 #[.slice A gs.length c] w fun e w' => e = .returned (.tuple #[.int .i64 pl, .agg f.vals.toArray, .bool fd]) ∧ Ext w w' := by
  have sh := h.shA
  obtain ⟨F, G, a, _⟩ := h
  have := bfirst_any (c := c) a sh rfl h9
  rw [hp] at this
  exact this
theorem rfirst_n {pl : Nat} {f : Fr} {fd : Bool} (h : NN w0 B C w A c A2 c2 gs hs ss ts) (h9 : hs.length ≤ 100) (hp : pick ts = (pl, f, fd)) : Calls Try.prog 12 #[.slice A2 hs.length c2] w fun e w' => e = .returned (.tuple #[.int .i64 pl, .agg f.vals.toArray, .bool fd]) ∧ Ext w w' := by
  have sh := h.shB
  obtain ⟨F, G, _, a, _⟩ := h
  have := brfirst_any (c := c2) a sh rfl h9
  rw [hp] at this
  exact this
theorem turn_n {pl : Nat} {f : Fr} {fd : Bool} (lost : Bool) (h : NN w0 B C w A c A2 c2 gs hs ss ts) (h9 : gs.length ≤ 100) (hp : pick ss = (pl, f, fd)) (ht : turnL lost ss = ss') : Calls Try.prog 15 #[.bool lost, .slice A gs.length c] w fun e w' => e = .returned (.tuple #[.int .i64 pl, .agg f.vals.toArray, .bool fd]) ∧ NN w0 B C w' A c A2 c2 gs hs ss' ts ∧ HoleKept B C w w' := by
  have sh := h.shA
  obtain ⟨h1, h2⟩ := h.cmA
  obtain ⟨F, a, hF, hpost⟩ := Nodes.postA (ss' := ss') h
  have := turn_any (c := c) lost a sh rfl h1 (fun ad e => hF ad.block (by rw [e]; rfl)) h9 h2
  rw [hp, ht] at this
  exact this.mono fun e w' ⟨r, q⟩ => ⟨r, hpost w' q⟩
theorem rturn_n {pl : Nat} {f : Fr} {fd : Bool} (lost : Bool) (h : NN w0 B C w A c A2 c2 gs hs ss ts) (h9 : hs.length ≤ 100) (hp : pick ts = (pl, f, fd)) (ht : turnL lost ts = ts') : Calls Try.prog 16 #[.bool lost, .slice A2 hs.length c2] w fun e w' => e = .returned (.tuple #[.int .i64 pl, .agg f.vals.toArray, .bool fd]) ∧ NN w0 B C w' A c A2 c2 gs hs ss ts' ∧ HoleKept B C w w' := by
  have sh := h.shB
  obtain ⟨F, a, hF, hpost⟩ := Nodes.postB (ts' := ts') h
  have := rturn_any (c := c2) lost a sh rfl (fun ad e => hF ad.block (by rw [e]; rfl)) h9
  rw [hp, ht] at this
  exact this.mono fun e w' ⟨r, q⟩ => ⟨r, hpost w' q⟩
theorem put_n {f : Fr} {m : Nat} (h : NN w0 B C w A c A2 c2 gs hs ss ts) (h9 : gs.length ≤ 100) (hf : f.ok) (hp : putN f 0 gs.length ss = (ss', m)) : Calls Try.prog 17 #[.agg f.vals.toArray, .slice A gs.length c] w fun e w' => e = .returned (.int .i64 m) ∧ NN w0 B C w' A c A2 c2 gs hs ss' ts ∧ HoleKept B C w w' := by
  have sh := h.shA
  have hl := h.lenA
  obtain ⟨F, a, hF, hpost⟩ := Nodes.postA (ss' := ss') h
  have := put_any (c := c) (lo := 0) hf a sh rfl (fun k _ => by rw [Nat.zero_add]) (by omega) (fun ad e => hF ad.block (by rw [e]; rfl)) h9
  rw [hp] at this
  exact this.mono fun e w' ⟨r, q⟩ => ⟨r, hpost w' q⟩
theorem rput_n {f : Fr} {m : Nat} (h : NN w0 B C w A c A2 c2 gs hs ss ts) (h9 : hs.length ≤ 100) (hf : f.ok) (hp : putN f 0 hs.length ts = (ts', m)) : Calls Try.prog 18 #[.agg f.vals.toArray, .slice A2 hs.length c2] w fun e w' => e = .returned (.int .i64 m) ∧ NN w0 B C w' A c A2 c2 gs hs ss ts' ∧ HoleKept B C w w' := by
  have sh := h.shB
  obtain ⟨F, a, hF, hpost⟩ := Nodes.postB (ts' := ts') h
  have := rput_any (c := c2) hf a sh rfl (fun ad e => hF ad.block (by rw [e]; rfl)) h9
  rw [hp] at this
  exact this.mono fun e w' ⟨r, q⟩ => ⟨r, hpost w' q⟩
theorem send_n {i g : Nat} {s s' : BSt} {f : Fr} {n : Int} (h : NN w0 B C w A c A2 c2 gs hs ss ts) (hg : gs[i]? = some g) (hs2 : ss[i]? = some s) (hf : f.ok) (e : s.send f = (s', n)) : Calls Try.prog 13 #[.pointer (some ⟨g, 0, none⟩), .agg f.vals.toArray] w fun e w' => e = .returned (.int .i64 n) ∧ NN w0 B C w' A c A2 c2 gs hs (ss.set i s') ts ∧ HoleKept B C w w' := by
  obtain ⟨F, a, hF, hpost⟩ := Nodes.postA (ss' := ss.set i s') h
  obtain ⟨Fi, hB, hst⟩ := a.step hg hs2
  have := send_any hB f hf
  rw [e] at this
  exact this.mono fun _ w' ⟨r, q⟩ => ⟨r, hpost w' (hst _ _ q)⟩
theorem rsend_n {i g : Nat} {s s' : BSt} {f : Fr} {n : Int} (h : NN w0 B C w A c A2 c2 gs hs ss ts) (hg : hs[i]? = some g) (hs2 : ts[i]? = some s) (hf : f.ok) (e : s.send f = (s', n)) : Calls Try.prog 14 #[.pointer (some ⟨g, 0, none⟩), .agg f.vals.toArray] w fun e w' => e = .returned (.int .i64 n) ∧ NN w0 B C w' A c A2 c2 gs hs ss (ts.set i s') ∧ HoleKept B C w w' := by
  obtain ⟨F, a, hF, hpost⟩ := Nodes.postB (ts' := ts.set i s') h
  obtain ⟨Fi, hB, hst⟩ := a.step hg hs2
  have := rsend_any hB f hf
  rw [e] at this
  exact this.mono fun _ w' ⟨r, q⟩ => ⟨r, hpost w' (hst _ _ q)⟩
theorem recv_n {i g : Nat} {s s' : BSt} {f : Fr} {n : Bool} (h : NN w0 B C w A c A2 c2 gs hs ss ts) (hg : gs[i]? = some g) (hs2 : ss[i]? = some s) (e : s.recv = (s', f, n)) : Calls Try.prog 19 #[.pointer (some ⟨g, 0, none⟩)] w fun e w' => e = .returned (.tuple #[.agg f.vals.toArray, .bool n]) ∧ NN w0 B C w' A c A2 c2 gs hs (ss.set i s') ts ∧ HoleKept B C w w' := by
  obtain ⟨F, a, hF, hpost⟩ := Nodes.postA (ss' := ss.set i s') h
  obtain ⟨Fi, hB, hst⟩ := a.step hg hs2
  have := recv_any hB
  rw [e] at this
  exact this.mono fun _ w' ⟨r, q⟩ => ⟨r, hpost w' (hst _ _ q)⟩
theorem rrecv_n {i g : Nat} {s s' : BSt} {f : Fr} {n : Bool} (h : NN w0 B C w A c A2 c2 gs hs ss ts) (hg : hs[i]? = some g) (hs2 : ts[i]? = some s) (e : s.recv = (s', f, n)) : Calls Try.prog 20 #[.pointer (some ⟨g, 0, none⟩)] w fun e w' => e = .returned (.tuple #[.agg f.vals.toArray, .bool n]) ∧ NN w0 B C w' A c A2 c2 gs hs ss (ts.set i s') ∧ HoleKept B C w w' := by
  obtain ⟨F, a, hF, hpost⟩ := Nodes.postB (ts' := ts.set i s') h
  obtain ⟨Fi, hB, hst⟩ := a.step hg hs2
  have := rrecv_any hB
  rw [e] at this
  exact this.mono fun _ w' ⟨r, q⟩ => ⟨r, hpost w' (hst _ _ q)⟩
theorem wait_n {i g : Nat} {s : BSt} (h : NN w0 B C w A c A2 c2 gs hs ss ts) (hg : gs[i]? = some g) (hs2 : ss[i]? = some s) : Calls Try.prog 21 #[.pointer (some ⟨g, 0, none⟩)] w fun e w' => e = .returned (.int .i64 s.tx.length) ∧ w = w' := by
  obtain ⟨F, G, a, _⟩ := h
  obtain ⟨Fi, hB⟩ := a.get hg hs2
  exact wait_any hB
theorem taken_n {i g : Nat} {s : BSt} (h : NN w0 B C w A c A2 c2 gs hs ss ts) (hg : gs[i]? = some g) (hs2 : ss[i]? = some s) : Calls Try.prog 25 #[.pointer (some ⟨g, 0, none⟩)] w fun e w' => e = .returned (.int .i64 s.rx.length) ∧ w = w' := by
  obtain ⟨F, G, a, _⟩ := h
  obtain ⟨Fi, hB⟩ := a.get hg hs2
  exact taken_any hB
theorem Bxs.at_in {ty : TypeId} {F : Nat → Prop} (h : Bxs w ty gs ss F) {i g : Nat} {s : BSt} (hg : gs[i]? = some g) (hs : ss[i]? = some s) : F g := by
  obtain ⟨h1, h2, Fs, h3, h4, h5⟩ := h
  obtain ⟨_, fA, fc, tA, tc, rA, rc, hR⟩ := h3 i g s hg hs
  exact h4 i g (List.getElem?_eq_some_iff.1 hg).1 hR.fg
theorem Nodes.postA3 {va vb : Value} {ga gb : List Nat} (h : Nodes w0 B C w va vb ga gb gs hs ss ts) : ∃ F, Bxs w 71 gs ss F ∧ (∀ w', BxsPost w 71 gs ss' F w' → Nodes w0 B C w' va vb ga gb gs hs ss' ts ∧ HoleKept B C w w' ∧ ∀ (j b : Nat) (t : BSt), hs[j]? = some b → ts[j]? = some t → w'.heap[b]? = w.heap[b]?) := by
  obtain ⟨F, G, a, b, c, d, e, f, g, i, j, k, l⟩ := h
  refine ⟨F, a, fun w' p => ?_⟩
  obtain ⟨F', p1, q, r⟩ := p
  refine ⟨?_, fun u h1 h2 => q.block u (by omega) (fun hF => (e u hF).2 ⟨h1, h2⟩), fun u v t hu ht => ?_⟩
  · refine ⟨F', G, p1, b.kept q (fun u hu h => g u h hu), c.kept q (fun u hu => (e u hu).1), Nat.le_trans d q.size, ?_, f, ?_, own_keptF i q (fun u hu => (k u hu).1), own_keptF j q (fun u hu => (l u hu).1), ?_, ?_⟩
    · intro u hu
      exact (r u hu).elim (e u) (fun hn => ⟨Nat.le_trans c.size hn, by omega⟩)
    · intro u hu hG
      exact (r u hu).elim (fun hF => g u hF hG) (fun hn => by have := b.lt u hG; omega)
    · intro u hu
      exact ⟨fun hF => (r u hF).elim (k u hu).1 (fun hn => by have := own_lt i hu; omega), (k u hu).2⟩
    · intro u hu
      exact ⟨fun hF => (r u hF).elim (l u hu).1 (fun hn => by have := own_lt j hu; omega), (l u hu).2⟩
  · have hG := b.at_in hu ht
    exact q.block v (b.lt v hG) (fun hF => g v hF hG)
theorem over_n {i g : Nat} {s : BSt} (h : NN w0 B C w A c A2 c2 gs hs ss ts) (hg : gs[i]? = some g) (hs2 : ss[i]? = some s) : Calls Try.prog 22 #[.pointer (some ⟨g, 0, none⟩)] w fun e w' => e = .returned (.bool s.lost) ∧ NN w0 B C w' A c A2 c2 gs hs (ss.set i { s with lost := false }) ts ∧ HoleKept B C w w' ∧ ∀ (j b : Nat) (t : BSt), hs[j]? = some b → ts[j]? = some t → w'.heap[b]? = w.heap[b]? := by
  obtain ⟨F, a, hpost⟩ := Nodes.postA3 (ss' := ss.set i { s with lost := false }) h
  obtain ⟨Fi, hB, hst⟩ := a.step hg hs2
  exact (over_any hB).mono fun _ w' ⟨r, q⟩ => ⟨r, hpost w' (hst _ _ q)⟩
theorem rref {j b : Nat} {t : BSt} (h : NN w0 B C w A c A2 c2 gs hs ss ts) (hg : hs[j]? = some b) (ht : ts[j]? = some t) : ∃ fA fc tA tc rA rc, w.heap[b]? = some (.cells #[.slice fA t.fl.length fc, .slice tA t.tx.length tc, .slice rA t.rx.length rc, .bool t.lost] 53 (0, 0)) := by
  obtain ⟨F, G, _, b2, _⟩ := h
  obtain ⟨Fi, _, fA, fc, tA, tc, rA, rc, hR⟩ := b2.get hg ht
  exact ⟨fA, fc, tA, tc, rA, rc, hR.row⟩
end
end Go.Proofs.Ytjdabmadpclbaaa
