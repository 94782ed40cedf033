import Derived.Test.YtnjiajogbadadaaUH
import Derived.Lib.SlBytesConst
set_option linter.unusedVariables false
set_option linter.unusedSimpArgs false
namespace Go.Proofs.Ytnjiajogbadadaa
open Go.RowKit
theorem rd_below {w : World} {A : Option Addr} {n : Nat} {bs : List Int} (h : Rd w A (n + 1) bs) : ∀ ad, A = some ad → ad.block < w.heap.size := fun ad e => by
  obtain ⟨ad', e', hb, _⟩ := h.shows.2 (by omega)
  rw [e] at e'; injection e' with e'; subst e'; exact hb
/-- a literal's slice converted to its own type: the row is marked. -/
theorem conv_mark {w : World} {g : Nat} {C : Array Value} (n c : Nat) (K : w.heap[g]? = some (.cells C 5 (0, 0))) :
    ∃ w', (convert 29 29 (.slice (some ⟨g, 0, none⟩) n c)).run Try.prog w = .ok (.slice (some ⟨g, 0, none⟩) n c) w' ∧ w.grownBy w' (some g) ∧ w'.heap[g]? = some (.cells C 5 (C.size, C.size + 1)) := by
  have hsh : w.shape? g = some (5, C.size) := by unfold World.shape?; rw [K]
  refine ⟨w.freeze ⟨g, C.size, none⟩ 1, ?_, ?_, ?_⟩
  · simp [convert, run_underlying Try.underlying29, run_underlying Try.underlying5, markStringish, hsh]
  · refine ⟨rfl, rfl, rfl, ?_, ?_⟩
    · simp [World.freeze]
    · intro k _ hk
      have : g ≠ k := fun e => hk (by rw [e])
      simp [World.freeze, Array.getElem?_modify, this]
  · simp [World.freeze, Array.getElem?_modify, K]
end Go.Proofs.Ytnjiajogbadadaa
