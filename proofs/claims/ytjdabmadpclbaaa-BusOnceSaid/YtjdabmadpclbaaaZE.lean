import Derived.Test.YtjdabmadpclbaaaZD
set_option linter.unusedVariables false
set_option linter.unusedSimpArgs false
namespace Go.Proofs.Ytjdabmadpclbaaa
open Go.RowKit
structure BxApart (w0 : World) (B C : Nat) (w : World) (F G : Nat → Prop) : Prop where
  x : Ext w0 w
  hC : C ≤ w.heap.size
  aF : ∀ k, F k → w0.heap.size ≤ k ∧ ¬ (B ≤ k ∧ k < C)
  aG : ∀ k, G k → w0.heap.size ≤ k ∧ ¬ (B ≤ k ∧ k < C)
  dis : ∀ k, F k → ¬ G k
/-- the program's box and the reference's, beside one another. -/
def BxP (w0 : World) (B C : Nat) (w : World) (g h : Nat) (s t : BSt) : Prop := ∃ F G, BxC w 71 g s F ∧ BxC w 53 h t G ∧ BxApart w0 B C w F G
section
variable {w0 w w' : World} {B C g h : Nat} {s s' t t' : BSt} {F G : Nat → Prop}
theorem BxApart.left (a : BxApart w0 B C w F G) (hG : BxC w 53 h t G) (q : BxPost w 71 g s' F w') : BxP w0 B C w' g h s' t ∧ HoleKept B C w w' := by
  obtain ⟨F', p, b, c⟩ := q
  obtain ⟨x, hC, aF, aG, dis⟩ := a
  refine ⟨⟨F', G, p, hG.kept b (fun i hi hf => dis i hf hi), x.kept b (fun k hk => (aF k hk).1), Nat.le_trans hC b.size, fun k hk => (c k hk).elim (aF k) (fun hn => ⟨Nat.le_trans x.size hn, by omega⟩), aG, fun k hk hg => (c k hk).elim (fun hf => dis k hf hg) (fun hn => ?_)⟩, fun i hi hc => b.block i (by omega) (fun e => (aF i e).2 ⟨hi, hc⟩)⟩
  have := hG.lt k hg
  omega
theorem BxApart.right (a : BxApart w0 B C w F G) (hF : BxC w 71 g s F) (q : BxPost w 53 h t' G w') : BxP w0 B C w' g h s t' ∧ HoleKept B C w w' := by
  obtain ⟨G', p, b, c⟩ := q
  obtain ⟨x, hC, aF, aG, dis⟩ := a
  refine ⟨⟨F, G', hF.kept b (fun i hi hf => dis i hi hf), p, x.kept b (fun k hk => (aG k hk).1), Nat.le_trans hC b.size, aF, fun k hk => (c k hk).elim (aG k) (fun hn => ⟨Nat.le_trans x.size hn, by omega⟩), fun k hk hg => (c k hg).elim (fun hf => dis k hk hf) (fun hn => ?_)⟩, fun i hi hc => b.block i (by omega) (fun e => (aG i e).2 ⟨hi, hc⟩)⟩
  have := hF.lt k hk
  omega
theorem BxP.ext (p : BxP w0 B C w g h s t) (x : Ext w w') : BxP w0 B C w' g h s t := by
  obtain ⟨F, G, a, b, c⟩ := p
  exact ⟨F, G, a.ext x, b.ext x, c.x.trans x, Nat.le_trans c.hC x.size, c.aF, c.aG, c.dis⟩
theorem BxP.hole (p : BxP w0 B C w g h s t) (x : Ext w w') : BxP w0 w.heap.size w'.heap.size w' g h s t := by
  obtain ⟨F, G, a, b, c⟩ := p
  exact ⟨F, G, a.ext x, b.ext x, c.x.trans x, Nat.le_refl _, fun k hk => ⟨(c.aF k hk).1, by have := a.lt k hk; omega⟩, fun k hk => ⟨(c.aG k hk).1, by have := b.lt k hk; omega⟩, c.dis⟩
theorem BxP.no (p : BxP w0 B C w g h s t) : BxP w0 0 0 w g h s t := by
  obtain ⟨F, G, a, b, c⟩ := p
  exact ⟨F, G, a, b, c.x, Nat.zero_le _, fun k hk => ⟨(c.aF k hk).1, by omega⟩, fun k hk => ⟨(c.aG k hk).1, by omega⟩, c.dis⟩
theorem BxP.x (p : BxP w0 B C w g h s t) : Ext w0 w := by obtain ⟨F, G, _, _, c⟩ := p; exact c.x
theorem BxP.ok (p : BxP w0 B C w g h s t) : s.ok := by obtain ⟨F, G, a, _, _⟩ := p; exact a.ok
theorem BxP.rrow (p : BxP w0 B C w g h s t) : ∃ fA fc tA tc rA rc, w.heap[h]? = some (.cells #[.slice fA t.fl.length fc, .slice tA t.tx.length tc, .slice rA t.rx.length rc, .bool t.lost] 53 (0, 0)) := by
  obtain ⟨F, G, _, ⟨_, fA, fc, tA, tc, rA, rc, b⟩, _⟩ := p
  exact ⟨fA, fc, tA, tc, rA, rc, b.row⟩
theorem BxP.new {w1 w2 : World} (x0 : Ext w0 w) (hF : BxC w1 71 g s F) (x1 : Ext w w1) (nF : ∀ k, F k → w.heap.size ≤ k) (hG : BxC w2 53 h t G) (x2 : Ext w1 w2) (nG : ∀ k, G k → w1.heap.size ≤ k) : BxP w0 0 0 w2 g h s t :=
  ⟨F, G, hF.ext x2, hG, (x0.trans x1).trans x2, Nat.zero_le _, fun k hk => ⟨Nat.le_trans x0.size (nF k hk), by omega⟩, fun k hk => ⟨Nat.le_trans (x0.trans x1).size (nG k hk), by omega⟩, fun k hk hg => by have := hF.lt k hk; have := nG k hg; omega⟩
theorem send_p {f : Fr} {n : Int} (p : BxP w0 B C w g h s t) (hf : f.ok) (hs : s.send f = (s', n)) : Calls Try.prog 13 #[.pointer (some ⟨g, 0, none⟩), .agg f.vals.toArray] w fun e w' => e = .returned (.int .i64 n) ∧ BxP w0 B C w' g h s' t ∧ HoleKept B C w w' := by
  obtain ⟨F, G, a, b, c⟩ := p
  have := send_any a f hf
  rw [hs] at this
  exact this.mono fun e w' ⟨r, q⟩ => ⟨r, c.left b q⟩
theorem rsend_p {f : Fr} {n : Int} (p : BxP w0 B C w g h s t) (hf : f.ok) (hs : t.send f = (t', n)) : Calls Try.prog 14 #[.pointer (some ⟨h, 0, none⟩), .agg f.vals.toArray] w fun e w' => e = .returned (.int .i64 n) ∧ BxP w0 B C w' g h s t' ∧ HoleKept B C w w' := by
  obtain ⟨F, G, a, b, c⟩ := p
  have := rsend_any b f hf
  rw [hs] at this
  exact this.mono fun e w' ⟨r, q⟩ => ⟨r, c.right a q⟩
theorem take_p {f : Fr} {n : Bool} (p : BxP w0 B C w g h s t) (hf : f.ok) (hs : s.take f = (s', n)) : Calls Try.prog 35 #[.pointer (some ⟨g, 0, none⟩), .agg f.vals.toArray] w fun e w' => e = .returned (.bool n) ∧ BxP w0 B C w' g h s' t ∧ HoleKept B C w w' := by
  obtain ⟨F, G, a, b, c⟩ := p
  have := take_any a f hf
  rw [hs] at this
  exact this.mono fun e w' ⟨r, q⟩ => ⟨r, c.left b q⟩
theorem rtake_p {f : Fr} {n : Bool} (p : BxP w0 B C w g h s t) (hf : f.ok) (hs : t.take f = (t', n)) : Calls Try.prog 34 #[.pointer (some ⟨h, 0, none⟩), .agg f.vals.toArray] w fun e w' => e = .returned (.bool n) ∧ BxP w0 B C w' g h s t' ∧ HoleKept B C w w' := by
  obtain ⟨F, G, a, b, c⟩ := p
  have := rtake_any b f hf
  rw [hs] at this
  exact this.mono fun e w' ⟨r, q⟩ => ⟨r, c.right a q⟩
theorem done_p (p : BxP w0 B C w g h s t) : Calls Try.prog 32 #[.pointer (some ⟨g, 0, none⟩)] w fun e w' => e = .returned (.tuple #[]) ∧ BxP w0 B C w' g h s.done t ∧ HoleKept B C w w' := by
  obtain ⟨F, G, a, b, c⟩ := p
  exact (done_any a).mono fun e w' ⟨r, q⟩ => ⟨r, c.left b q⟩
theorem rdone_p (p : BxP w0 B C w g h s t) : Calls Try.prog 33 #[.pointer (some ⟨h, 0, none⟩)] w fun e w' => e = .returned (.tuple #[]) ∧ BxP w0 B C w' g h s t.done ∧ HoleKept B C w w' := by
  obtain ⟨F, G, a, b, c⟩ := p
  exact (rdone_any b).mono fun e w' ⟨r, q⟩ => ⟨r, c.right a q⟩
theorem recv_p {f : Fr} {n : Bool} (p : BxP w0 B C w g h s t) (hs : s.recv = (s', f, n)) : Calls Try.prog 19 #[.pointer (some ⟨g, 0, none⟩)] w fun e w' => e = .returned (.tuple #[.agg f.vals.toArray, .bool n]) ∧ BxP w0 B C w' g h s' t ∧ HoleKept B C w w' := by
  obtain ⟨F, G, a, b, c⟩ := p
  have := recv_any a
  rw [hs] at this
  exact this.mono fun e w' ⟨r, q⟩ => ⟨r, c.left b q⟩
theorem rrecv_p {f : Fr} {n : Bool} (p : BxP w0 B C w g h s t) (hs : t.recv = (t', f, n)) : Calls Try.prog 20 #[.pointer (some ⟨h, 0, none⟩)] w fun e w' => e = .returned (.tuple #[.agg f.vals.toArray, .bool n]) ∧ BxP w0 B C w' g h s t' ∧ HoleKept B C w w' := by
  obtain ⟨F, G, a, b, c⟩ := p
  have := rrecv_any b
  rw [hs] at this
  exact this.mono fun e w' ⟨r, q⟩ => ⟨r, c.right a q⟩
theorem over_p (p : BxP w0 B C w g h s t) : Calls Try.prog 22 #[.pointer (some ⟨g, 0, none⟩)] w fun e w' => e = .returned (.bool s.lost) ∧ BxP w0 B C w' g h { s with lost := false } t ∧ HoleKept B C w w' := by
  obtain ⟨F, G, a, b, c⟩ := p
  exact (over_any a).mono fun e w' ⟨r, q⟩ => ⟨r, c.left b q⟩
theorem next_p {f : Fr} {n : Bool} (p : BxP w0 B C w g h s t) (hs : s.next = (f, n)) : Calls Try.prog 28 #[.pointer (some ⟨g, 0, none⟩)] w fun e w' => e = .returned (.tuple #[.agg f.vals.toArray, .bool n]) ∧ BxP w0 B C w' g h s t ∧ Ext w w' := by
  have p2 := p
  obtain ⟨F, G, a, b, c⟩ := p
  have := next_any a
  rw [hs] at this
  exact this.mono fun e w' ⟨r, q⟩ => ⟨r, p2.ext q, q⟩
theorem rnext_p {f : Fr} {n : Bool} (p : BxP w0 B C w g h s t) (hs : t.next = (f, n)) : Calls Try.prog 30 #[.pointer (some ⟨h, 0, none⟩)] w fun e w' => e = .returned (.tuple #[.agg f.vals.toArray, .bool n]) ∧ BxP w0 B C w' g h s t ∧ Ext w w' := by
  have p2 := p
  obtain ⟨F, G, a, b, c⟩ := p
  have := rnx_any b
  rw [hs] at this
  exact this.mono fun e w' ⟨r, q⟩ => ⟨r, p2.ext q, q⟩
theorem wait_p (p : BxP w0 B C w g h s t) : Calls Try.prog 21 #[.pointer (some ⟨g, 0, none⟩)] w fun e w' => e = .returned (.int .i64 s.tx.length) ∧ w = w' := by
  obtain ⟨F, G, a, _⟩ := p
  exact wait_any a
theorem taken_p (p : BxP w0 B C w g h s t) : Calls Try.prog 25 #[.pointer (some ⟨g, 0, none⟩)] w fun e w' => e = .returned (.int .i64 s.rx.length) ∧ w = w' := by
  obtain ⟨F, G, a, _⟩ := p
  exact taken_any a
end
end Go.Proofs.Ytjdabmadpclbaaa
