import Derived.Test.YtjdabmadpclbaaaS
set_option linter.unusedVariables false
set_option linter.unusedSimpArgs false
namespace Go.Proofs.Ytjdabmadpclbaaa
open Go.RowKit
/-- a box of one's own, apart from some blocks. -/
def BxQ (w0 : World) (B C : Nat) (w : World) (ty : TypeId) (g : Nat) (s : BSt) : Prop := ∃ F, BxC w ty g s F ∧ Ext w0 w ∧ C ≤ w.heap.size ∧ ∀ k, F k → w0.heap.size ≤ k ∧ ¬ (B ≤ k ∧ k < C)
def HoleKept (B C : Nat) (w w' : World) : Prop := ∀ i, B ≤ i → i < C → w'.heap[i]? = w.heap[i]?
theorem BxQ.toO {w0 w : World} {B C : Nat} {ty : TypeId} {g : Nat} {s : BSt} (h : BxQ w0 B C w ty g s) : BxO w0 w ty g s := by
  obtain ⟨F, h1, h2, _, h3⟩ := h; exact ⟨F, h1, h2, fun k hk => (h3 k hk).1⟩
theorem BxO.toQ {w0 w w' : World} {ty : TypeId} {g : Nat} {s : BSt} (h : BxO w0 w ty g s) (x : Ext w w') : BxQ w0 w.heap.size w'.heap.size w' ty g s := by
  obtain ⟨F, h1, h2, h3⟩ := h
  exact ⟨F, h1.ext x, h2.trans x, Nat.le_refl _, fun k hk => ⟨h3 k hk, by have := h1.lt k hk; omega⟩⟩
theorem BxQ.post {w0 w w' : World} {B C : Nat} {ty : TypeId} {g : Nat} {s' : BSt} {F : Nat → Prop} (h2 : Ext w0 w) (hC : C ≤ w.heap.size) (h3 : ∀ k, F k → w0.heap.size ≤ k ∧ ¬ (B ≤ k ∧ k < C)) (p : BxPost w ty g s' F w') : BxQ w0 B C w' ty g s' ∧ HoleKept B C w w' := by
  obtain ⟨F', a, b, c⟩ := p
  exact ⟨⟨F', a, h2.kept b (fun k hk => (h3 k hk).1), Nat.le_trans hC b.size, fun k hk => (c k hk).elim (h3 k) (fun h => ⟨Nat.le_trans h2.size h, by omega⟩)⟩, fun i hi hc => b.block i (by omega) (fun e => (h3 i e).2 ⟨hi, hc⟩)⟩
theorem send_q {w0 w : World} {B C : Nat} {g : Nat} {s s' : BSt} {f : Fr} {n : Int} (h : BxQ w0 B C w 71 g s) (hf : f.ok) (hs : s.send f = (s', n)) : Calls Try.prog 13 #[.pointer (some ⟨g, 0, none⟩), .agg f.vals.toArray] w fun e w' => e = .returned (.int .i64 n) ∧ BxQ w0 B C w' 71 g s' ∧ HoleKept B C w w' := by
  obtain ⟨F, h1, h2, hC, h3⟩ := h
  have := send_any h1 f hf
  rw [hs] at this
  exact this.mono fun e w' ⟨a, p⟩ => ⟨a, BxQ.post h2 hC h3 p⟩
theorem take_q {w0 w : World} {B C : Nat} {g : Nat} {s s' : BSt} {f : Fr} {b : Bool} (h : BxQ w0 B C w 71 g s) (hf : f.ok) (hs : s.take f = (s', b)) : Calls Try.prog 35 #[.pointer (some ⟨g, 0, none⟩), .agg f.vals.toArray] w fun e w' => e = .returned (.bool b) ∧ BxQ w0 B C w' 71 g s' ∧ HoleKept B C w w' := by
  obtain ⟨F, h1, h2, hC, h3⟩ := h
  have := take_any h1 f hf
  rw [hs] at this
  exact this.mono fun e w' ⟨a, p⟩ => ⟨a, BxQ.post h2 hC h3 p⟩
theorem done_q {w0 w : World} {B C : Nat} {g : Nat} {s : BSt} (h : BxQ w0 B C w 71 g s) : Calls Try.prog 32 #[.pointer (some ⟨g, 0, none⟩)] w fun e w' => e = .returned (.tuple #[]) ∧ BxQ w0 B C w' 71 g s.done ∧ HoleKept B C w w' := by
  obtain ⟨F, h1, h2, hC, h3⟩ := h
  exact (done_any h1).mono fun e w' ⟨a, p⟩ => ⟨a, BxQ.post h2 hC h3 p⟩
theorem over_q {w0 w : World} {B C : Nat} {g : Nat} {s : BSt} (h : BxQ w0 B C w 71 g s) : Calls Try.prog 22 #[.pointer (some ⟨g, 0, none⟩)] w fun e w' => e = .returned (.bool s.lost) ∧ BxQ w0 B C w' 71 g { s with lost := false } ∧ HoleKept B C w w' := by
  obtain ⟨F, h1, h2, hC, h3⟩ := h
  exact (over_any h1).mono fun e w' ⟨a, p⟩ => ⟨a, BxQ.post h2 hC h3 p⟩
theorem recv_q {w0 w : World} {B C : Nat} {g : Nat} {s : BSt} (h : BxQ w0 B C w 71 g s) : Calls Try.prog 19 #[.pointer (some ⟨g, 0, none⟩)] w fun e w' => e = .returned (.tuple #[.agg s.recv.2.1.vals.toArray, .bool s.recv.2.2]) ∧ BxQ w0 B C w' 71 g s.recv.1 ∧ HoleKept B C w w' := by
  obtain ⟨F, h1, h2, hC, h3⟩ := h
  exact (recv_any h1).mono fun e w' ⟨a, p⟩ => ⟨a, BxQ.post h2 hC h3 p⟩
theorem take_tx (s : BSt) (f : Fr) : (s.take f).1.tx = s.tx := by
  unfold BSt.take
  split
  · rfl
  · split <;> rfl
theorem recv_tx (s : BSt) : s.recv.1.tx = s.tx := by
  unfold BSt.recv
  split <;> rfl
theorem next_tx {s t : BSt} (h : t.tx = s.tx) : t.next = s.next := by simp [BSt.next, h]
theorem acAt {w : World} {g : Nat} {y : Ac} {t : TypeId} {fr : Nat × Nat} (h : w.heap[g]? = some (.cells y.vals.toArray t fr)) : w.rangeAt g 1 y.f.vals := fun j v hj => by
  rw [cell_of_row w g (1 + j) _ t fr h]
  simp only [Ac.vals, List.getElem?_toArray]
  rw [show 1 + j = j + 1 by omega, List.getElem?_cons_succ]
  exact hj
end Go.Proofs.Ytjdabmadpclbaaa
