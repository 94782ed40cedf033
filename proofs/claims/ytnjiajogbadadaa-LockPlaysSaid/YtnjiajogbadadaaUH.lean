import Derived.Test.YtnjiajogbadadaaUG
import Derived.Test.YtnjiajogbadadaaUD
set_option linter.unusedVariables false
set_option linter.unusedSimpArgs false
namespace Go.Proofs.Ytnjiajogbadadaa
open Go.RowKit
def Low (w : World) (v : Value) (i : Nat) : Prop := w.heap.size ≤ i ∧ v.ownBlock ≠ some i
structure TwR (w : World) (v : Value) (wz W : World) (gl gr : Nat) (s : LSt) (F G : Nat → Prop) : Prop where
  L : LkC W gl s F
  R : RkC W gr s G
  dis : ∀ i, F i → ¬ G i
  lowF : ∀ i, F i → Low w v i
  lowG : ∀ i, G i → Low w v i
  k : Kept (Low w v) wz W
def Two (w : World) (v : Value) (wz W : World) (gl gr : Nat) (s : LSt) : Prop := ∃ F G, TwR w v wz W gl gr s F G
theorem LkC.lt {w : World} {g : Nat} {s : LSt} {F : Nat → Prop} (h : LkC w g s F) : ∀ k, F k → k < w.heap.size := by obtain ⟨_, _, _, _, h⟩ := h; exact h.lt
theorem RkC.lt {w : World} {g : Nat} {s : LSt} {F : Nat → Prop} (h : RkC w g s F) : ∀ k, F k → k < w.heap.size := by obtain ⟨_, _, _, _, h⟩ := h; exact h.lt
theorem cut_ok {w : World} {a : Ac} (h : a.ok w) : a.cut.ok w := ⟨h.k, h.m, h.r, h.rd.take (k := min a.n 30) (by omega), by have := h.le; show min a.n 30 ≤ a.c; omega, h.cm⟩
/-- both after their calls. -/
theorem TwR.next {w wz W W1 W2 : World} {v : Value} {gl gr : Nat} {s s' : LSt} {F G F' G' : Nat → Prop} (h : TwR w v wz W gl gr s F G) (hv : ∀ b, v.ownBlock = some b → b < W.heap.size) (hw : w.heap.size ≤ W.heap.size)
    (k1 : Kept F W W1) (L1 : LkC W1 gl s' F') (n1 : ∀ k, F' k → F k ∨ W.heap.size ≤ k) (k2 : Kept G W1 W2) (R2 : RkC W2 gr s' G') (n2 : ∀ k, G' k → G k ∨ W1.heap.size ≤ k) : TwR w v wz W2 gl gr s' F' G' := by
  have hGlt := h.R.lt
  have hs := k1.size
  refine ⟨L1.kept k2 (fun i hi hG => (n1 i hi).elim (fun hf => h.dis i hf hG) (fun hl => by have := hGlt i hG; omega)), R2, ?_, ?_, ?_, (h.k.trans' (k1.mono (fun i _ hi => h.lowF i hi))).trans' (k2.mono (fun i _ hi => h.lowG i hi))⟩
  · intro i hi hG
    rcases n1 i hi with hf | hl
    · rcases n2 i hG with hg | hg
      · exact h.dis i hf hg
      · have := h.L.lt i hf; omega
    · rcases n2 i hG with hg | hg
      · have := hGlt i hg; omega
      · have := L1.lt i hi; omega
  · intro i hi
    rcases n1 i hi with hf | hl
    · exact h.lowF i hf
    · exact ⟨by omega, fun e => by have := hv i e; omega⟩
  · intro i hi
    rcases n2 i hi with hf | hl
    · exact h.lowG i hf
    · exact ⟨by omega, fun e => by have := hv i e; omega⟩
theorem TwR.ext {w wz W W1 : World} {v : Value} {gl gr : Nat} {s : LSt} {F G : Nat → Prop} (h : TwR w v wz W gl gr s F G) (x : Ext W W1) : TwR w v wz W1 gl gr s F G :=
  ⟨h.L.ext x, h.R.ext x, h.dis, h.lowF, h.lowG, h.k.then x⟩
end Go.Proofs.Ytnjiajogbadadaa
