import Derived.Test.YtdikhpifamjalaaU
import Derived.Test.YtdikhpifamjalaaR
import Derived.Test.YtdikhpifamjalaaT
import Derived.Test.YtdikhpifamjalaaW
import Derived.Test.YtdikhpifamjalaaOwnS
import Derived.Deep.LoopGhost
set_option linter.unusedVariables false
set_option linter.unusedSimpArgs false
namespace Go.Proofs.Ytdikhpifamjalaa
open Go.RowKit
/-- a box of one's own and a list of frames of one's own beside it. -/
def BxV (w0 : World) (B C : Nat) (w : World) (g : Nat) (s : BSt) (v : Value) (xs : List Fr) : Prop := ∃ F, BxC w 58 g s F ∧ Ext w0 w ∧ C ≤ w.heap.size ∧ (∀ k, F k → w0.heap.size ≤ k ∧ ¬ (B ≤ k ∧ k < C)) ∧ OwnS w w0.heap.size 37 11 v xs.length (frs xs) ∧ ∀ b, v.ownBlock = some b → ¬ F b
section
variable {w0 w w' : World} {B C g : Nat} {s s' : BSt} {v v' : Value} {xs ys : List Fr}
theorem BxV.x (p : BxV w0 B C w g s v xs) : Ext w0 w := by obtain ⟨F, _, h, _⟩ := p; exact h
theorem BxV.ok (p : BxV w0 B C w g s v xs) : s.ok := by obtain ⟨F, h, _⟩ := p; exact h.ok
theorem BxV.own (p : BxV w0 B C w g s v xs) : OwnS w w0.heap.size 37 11 v xs.length (frs xs) := by obtain ⟨F, _, _, _, _, h, _⟩ := p; exact h
theorem BxV.ext (p : BxV w0 B C w g s v xs) (x : Ext w w') : BxV w0 B C w' g s v xs := by
  obtain ⟨F, a, b, c, d, e, f⟩ := p
  exact ⟨F, a.ext x, b.trans x, Nat.le_trans c x.size, d, e.ext x, f⟩
theorem BxV.hole (p : BxV w0 B C w g s v xs) (x : Ext w w') : BxV w0 w.heap.size w'.heap.size w' g s v xs := by
  obtain ⟨F, a, b, c, d, e, f⟩ := p
  exact ⟨F, a.ext x, b.trans x, Nat.le_refl _, fun k hk => ⟨(d k hk).1, by have := a.lt k hk; omega⟩, e.ext x, f⟩
theorem BxV.no (p : BxV w0 B C w g s v xs) : BxV w0 0 0 w g s v xs := by
  obtain ⟨F, a, b, c, d, e, f⟩ := p
  exact ⟨F, a, b, Nat.zero_le _, fun k hk => ⟨(d k hk).1, by omega⟩, e, f⟩
theorem BxV.post {F : Nat → Prop} (b : Ext w0 w) (c : C ≤ w.heap.size) (d : ∀ k, F k → w0.heap.size ≤ k ∧ ¬ (B ≤ k ∧ k < C)) (e : OwnS w w0.heap.size 37 11 v xs.length (frs xs)) (f : ∀ b, v.ownBlock = some b → ¬ F b) (q : BxPost w 58 g s' F w') : BxV w0 B C w' g s' v xs ∧ HoleKept B C w w' := by
  obtain ⟨F', p1, p2, p3⟩ := q
  refine ⟨⟨F', p1, b.kept p2 (fun k hk => (d k hk).1), Nat.le_trans c p2.size, fun k hk => (p3 k hk).elim (d k) (fun hn => ⟨Nat.le_trans b.size hn, by omega⟩), e.keptF p2 f, fun k hk hF => (p3 k hF).elim (f k hk) (fun hn => ?_)⟩, fun i hi hc => p2.block i (by omega) (fun hF => (d i hF).2 ⟨hi, hc⟩)⟩
  have := (e.lt k hk).2
  omega
/-- the list is written in place, or anew. -/
theorem BxV.grow (p : BxV w0 B C w g s v xs) (hv : OwnS w' w0.heap.size 37 11 v' ys.length (frs ys)) (hg : w.grownBy w' v.ownBlock) (hat : v'.ownBlock = v.ownBlock ∨ v'.ownBlock = some w.heap.size) : BxV w0 0 0 w' g s v' ys := by
  obtain ⟨F, a, b, c, d, e, f⟩ := p
  refine ⟨F, a.kept (Kept.of_grown hg (F := fun k => v.ownBlock = some k) (fun _ h => h)) (fun i hi h => f i h hi), Ext.of_grown b hg (fun k h => (e.lt k h).1), Nat.zero_le _, fun k hk => ⟨(d k hk).1, by omega⟩, hv, fun k hk hF => ?_⟩
  rcases hat with h | h
  · exact f k (h ▸ hk) hF
  · rw [hk] at h
    injection h with h
    have := a.lt k hF
    omega
/-- the list is laid anew. -/
theorem BxV.renew (p : BxV w0 B C w g s v xs) (x : Ext w w') (hv : w'.ownsRow w.heap.size 37 11 v' ys.length (frs ys)) : BxV w0 B C w' g s v' ys := by
  obtain ⟨F, a, b, c, d, e, f⟩ := p
  refine ⟨F, a.ext x, b.trans x, Nat.le_trans c x.size, d, (OwnS.of_own hv).base_le b.size, fun k hk hF => ?_⟩
  have := (hv.lt k hk).1
  have := a.lt k hF
  omega
/-- the list is a part of what it was. -/
theorem BxV.part (p : BxV w0 B C w g s v xs) (hv : OwnS w w0.heap.size 37 11 v' ys.length (frs ys)) (hat : v'.ownBlock = v.ownBlock) : BxV w0 B C w g s v' ys := by
  obtain ⟨F, a, b, c, d, e, f⟩ := p
  exact ⟨F, a, b, c, d, hv, fun k hk => f k (hat ▸ hk)⟩
theorem send_v {f : Fr} {n : Int} (p : BxV w0 B C w g s v xs) (hf : f.ok) (hs : s.send f = (s', n)) : Calls Try.prog 14 #[.pointer (some ⟨g, 0, none⟩), .agg f.vals.toArray] w fun e w' => e = .returned (.int .i64 n) ∧ BxV w0 B C w' g s' v xs ∧ HoleKept B C w w' := by
  obtain ⟨F, a, b, c, d, e, f'⟩ := p
  have := send_any a f hf
  rw [hs] at this
  exact this.mono fun _ w' ⟨r, q⟩ => ⟨r, BxV.post b c d e f' q⟩
theorem take_v {f : Fr} {n : Bool} (p : BxV w0 B C w g s v xs) (hf : f.ok) (hs : s.take f = (s', n)) : Calls Try.prog 18 #[.pointer (some ⟨g, 0, none⟩), .agg f.vals.toArray] w fun e w' => e = .returned (.bool n) ∧ BxV w0 B C w' g s' v xs ∧ HoleKept B C w w' := by
  obtain ⟨F, a, b, c, d, e, f'⟩ := p
  have := take_any a f hf
  rw [hs] at this
  exact this.mono fun _ w' ⟨r, q⟩ => ⟨r, BxV.post b c d e f' q⟩
theorem done_v (p : BxV w0 B C w g s v xs) : Calls Try.prog 16 #[.pointer (some ⟨g, 0, none⟩)] w fun e w' => e = .returned (.tuple #[]) ∧ BxV w0 B C w' g s.done v xs ∧ HoleKept B C w w' := by
  obtain ⟨F, a, b, c, d, e, f'⟩ := p
  exact (done_any a).mono fun _ w' ⟨r, q⟩ => ⟨r, BxV.post b c d e f' q⟩
theorem recv_v {f : Fr} {n : Bool} (p : BxV w0 B C w g s v xs) (hs : s.recv = (s', f, n)) : Calls Try.prog 20 #[.pointer (some ⟨g, 0, none⟩)] w fun e w' => e = .returned (.tuple #[.agg f.vals.toArray, .bool n]) ∧ BxV w0 B C w' g s' v xs ∧ HoleKept B C w w' := by
  obtain ⟨F, a, b, c, d, e, f'⟩ := p
  have := recv_any a
  rw [hs] at this
  exact this.mono fun _ w' ⟨r, q⟩ => ⟨r, BxV.post b c d e f' q⟩
theorem over_v (p : BxV w0 B C w g s v xs) : Calls Try.prog 22 #[.pointer (some ⟨g, 0, none⟩)] w fun e w' => e = .returned (.bool s.lost) ∧ BxV w0 B C w' g { s with lost := false } v xs ∧ HoleKept B C w w' := by
  obtain ⟨F, a, b, c, d, e, f'⟩ := p
  exact (over_any a).mono fun _ w' ⟨r, q⟩ => ⟨r, BxV.post b c d e f' q⟩
theorem next_v {f : Fr} {n : Bool} (p : BxV w0 B C w g s v xs) (hs : s.next = (f, n)) : Calls Try.prog 24 #[.pointer (some ⟨g, 0, none⟩)] w fun e w' => e = .returned (.tuple #[.agg f.vals.toArray, .bool n]) ∧ BxV w0 B C w' g s v xs ∧ Ext w w' := by
  have p2 := p
  obtain ⟨F, a, _⟩ := p
  have := next_any a
  rw [hs] at this
  exact this.mono fun _ w' ⟨r, q⟩ => ⟨r, p2.ext q, q⟩
theorem wait_v (p : BxV w0 B C w g s v xs) : Calls Try.prog 26 #[.pointer (some ⟨g, 0, none⟩)] w fun e w' => e = .returned (.int .i64 s.tx.length) ∧ w = w' := by
  obtain ⟨F, a, _⟩ := p
  exact wait_any a
end
theorem wpList_bsF {w : World} {ops : Array Oper} {rest : List Oper} {o : Oper} {a : Act} {Q : Exit → Act → World → Prop} {f : Fr} (hgd : o.guard = none) (x : Operand) (ho : o.op = .buildSlice 45 1 #[(0, x)]) (hx : a.eval x = .agg f.vals.toArray)
    (h : wpList Try.prog ops Q rest (a.put o.dst (.slice (some ⟨w.heap.size, 0, none⟩) 1 1)) (w.alloc (.cells f.vals.toArray 37))) : wpList Try.prog ops Q (o :: rest) a w := by
  obtain ⟨i, hi, hz, hsize, hby⟩ := el45.info
  refine wpList_buildSlice hgd 45 37 1 #[(0, x)] ho f.vals.toArray i _ Try.underlying45 hi hz (by rw [hsize]; decide) (by rw [hsize]; decide) ?_ h
  rw [hsize]
  simp only [List.map_toArray, List.map_cons, List.map_nil, hx]
  exact fill_fr f _ rfl
theorem send_no1 {s : BSt} {f : Fr} (h : f.may = false) : s.send f = (s, 1) := by simp [BSt.send, h]
theorem send_no2 {s : BSt} {f : Fr} (h : f.may = true) (h3 : 3 ≤ s.tx.length) : s.send f = (s, 20) := by simp [BSt.send, h, h3]
theorem send_yes {s : BSt} {f : Fr} (h : f.may = true) (h3 : ¬ 3 ≤ s.tx.length) : s.send f = ({ s with tx := s.tx ++ [f] }, 0) := by simp [BSt.send, h, h3]
end Go.Proofs.Ytdikhpifamjalaa
