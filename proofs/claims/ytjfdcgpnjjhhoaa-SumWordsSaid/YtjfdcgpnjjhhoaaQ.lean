import Derived.Test.YtjfdcgpnjjhhoaaP
set_option linter.unusedVariables false
namespace Go.Proofs.Ytjfdcgpnjjhhoaa
open Go.RowKit
theorem own_blk {w : World} {base g : Nat} {e : TypeId} {cs : List Value} {n : Nat} (K : w.heap[g]? = some (.cells cs.toArray e (0, 0))) (hb : base ≤ g) (hl : cs.length = n) (hm : n ≤ maxLen) : w.ownsRow base e 1 (.slice (some ⟨g, 0, none⟩) n n) n cs := by
  refine ⟨by omega, .inr ⟨g, n, cs.toArray, rfl, hb, K, Nat.le_refl _, hm, by simp [hl], ?_⟩⟩
  simp [← hl]
def zs (z : Nat) : List Int := List.replicate (4 * z) 0
theorem zs_byts (z : Nat) : Byts (zs z) := by intro b hb; have := List.eq_of_mem_replicate hb; omega
theorem zs_len (z : Nat) : (zs z).length = 4 * z := by simp [zs]
theorem way9 {k : Int} (h : 1 ≤ k ∧ k ≤ 9) {z : Nat} (hz : z ≤ 8) {X : List Int} (hx : Byts X) (hl : X.length % 4 = 0) :
    ∃ y, wayK k = some y ∧ (y.word = 1 ∨ y.word = 2 ∨ y.word = 4) ∧ sumV y false [] = (if k = 8 then 65535 else 0) ∧ (k = 8 ∨ k = 9 ∨ (k ≠ 8 ∧ k ≠ 9 ∧ sumV y true (zs z ++ X) = sumV y true X)) := by
  have add : ∀ y, wayK k = some y → addW y → sumV y true (zs z) = 0 → sumV y true (zs z ++ X) = sumV y true X := by
    intro y hy ha h0
    rw [sumV_app ha true (zs_byts z) hx (by rw [zs_len]; omega) hl, h0, Int.zero_add]
    rw [sumV_SW ha true hx]
    rcases ha.2.2.1 with e | e | e <;> rw [e] <;> omega
  have hz9 : z = 0 ∨ z = 1 ∨ z = 2 ∨ z = 3 ∨ z = 4 ∨ z = 5 ∨ z = 6 ∨ z = 7 ∨ z = 8 := by omega
  rcases (by omega : k = 1 ∨ k = 2 ∨ k = 3 ∨ k = 4 ∨ k = 5 ∨ k = 6 ∨ k = 7 ∨ k = 8 ∨ k = 9) with rfl | rfl | rfl | rfl | rfl | rfl | rfl | rfl | rfl
  · exact ⟨_, rfl, by simp, by kernel_rfl, .inr (.inr ⟨by omega, by omega, add _ rfl ⟨rfl, rfl, by simp, rfl, by simp⟩ (by rcases hz9 with rfl | rfl | rfl | rfl | rfl | rfl | rfl | rfl | rfl <;> kernel_rfl)⟩)⟩
  · exact ⟨_, rfl, by simp, by kernel_rfl, .inr (.inr ⟨by omega, by omega, add _ rfl ⟨rfl, rfl, by simp, rfl, by simp⟩ (by rcases hz9 with rfl | rfl | rfl | rfl | rfl | rfl | rfl | rfl | rfl <;> kernel_rfl)⟩)⟩
  · exact ⟨_, rfl, by simp, by kernel_rfl, .inr (.inr ⟨by omega, by omega, add _ rfl ⟨rfl, rfl, by simp, rfl, by simp⟩ (by rcases hz9 with rfl | rfl | rfl | rfl | rfl | rfl | rfl | rfl | rfl <;> kernel_rfl)⟩)⟩
  · exact ⟨_, rfl, by simp, by kernel_rfl, .inr (.inr ⟨by omega, by omega, add _ rfl ⟨rfl, rfl, by simp, rfl, by simp⟩ (by rcases hz9 with rfl | rfl | rfl | rfl | rfl | rfl | rfl | rfl | rfl <;> kernel_rfl)⟩)⟩
  · exact ⟨_, rfl, by simp, by kernel_rfl, .inr (.inr ⟨by omega, by omega, add _ rfl ⟨rfl, rfl, by simp, rfl, by simp⟩ (by rcases hz9 with rfl | rfl | rfl | rfl | rfl | rfl | rfl | rfl | rfl <;> kernel_rfl)⟩)⟩
  · exact ⟨_, rfl, by simp, by kernel_rfl, .inr (.inr ⟨by omega, by omega, add _ rfl ⟨rfl, rfl, by simp, rfl, by simp⟩ (by rcases hz9 with rfl | rfl | rfl | rfl | rfl | rfl | rfl | rfl | rfl <;> kernel_rfl)⟩)⟩
  · refine ⟨_, rfl, by simp, by kernel_rfl, .inr (.inr ⟨by omega, by omega, ?_⟩)⟩
    show sumV y7 true (zs z ++ X) = sumV y7 true X
    rw [sum7 true ((zs_byts z).append hx), sum7 true hx, List.foldl_append]
    have e : (zs z).foldl H7 0 = 0 := by rcases hz9 with rfl | rfl | rfl | rfl | rfl | rfl | rfl | rfl | rfl <;> kernel_rfl
    rw [e]
  · exact ⟨_, rfl, by simp, by kernel_rfl, .inl rfl⟩
  · exact ⟨_, rfl, by simp, by kernel_rfl, .inr (.inl rfl)⟩
end Go.Proofs.Ytjfdcgpnjjhhoaa
