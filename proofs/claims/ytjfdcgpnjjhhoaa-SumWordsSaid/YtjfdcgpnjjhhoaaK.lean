import Derived.Test.YtjfdcgpnjjhhoaaJ
set_option linter.unusedVariables false
namespace Go.Proofs.Ytjfdcgpnjjhhoaa
open Go.RowKit
/-- The sum of words, of no bound. -/
def SW (bs : List Int) (k : Nat) (big : Bool) : Nat → Int
  | 0 => 0
  | i + 1 => SW bs k big i + wordAt bs k big i
theorem addTo_SW (bs : List Int) (k : Nat) (big : Bool) : ∀ i, addTo bs k big i = SW bs k big i % 18446744073709551616
  | 0 => rfl
  | i + 1 => by simp only [addTo, SW, addTo_SW bs k big i]; omega
theorem wordAt_app1 {xs ys : List Int} {k : Nat} {big : Bool} {i : Nat} (h : k * i + k ≤ xs.length) : wordAt (xs ++ ys) k big i = wordAt xs k big i := by
  unfold wordAt
  rw [List.drop_append_of_le_length (by omega), List.take_append_of_le_length (by rw [List.length_drop]; omega)]
theorem wordAt_app2 {xs ys : List Int} {k : Nat} {big : Bool} {p i : Nat} (h : xs.length = k * p) : wordAt (xs ++ ys) k big (p + i) = wordAt ys k big i := by
  unfold wordAt
  rw [Nat.mul_add, ← h, List.drop_append, List.drop_eq_nil_of_le (by omega), Nat.add_sub_cancel_left]
  rfl
theorem SW_app1 {xs ys : List Int} {k : Nat} {big : Bool} : ∀ {i : Nat}, k * i ≤ xs.length → SW (xs ++ ys) k big i = SW xs k big i
  | 0, _ => rfl
  | i + 1, h => by rw [Nat.mul_succ] at h; simp only [SW, wordAt_app1 h, SW_app1 (xs := xs) (i := i) (show k * i ≤ xs.length by omega)]
theorem SW_app2 {xs ys : List Int} {k : Nat} {big : Bool} {p : Nat} (h : xs.length = k * p) : ∀ i : Nat, SW (xs ++ ys) k big (p + i) = SW xs k big p + SW ys k big i
  | 0 => by rw [Nat.add_zero, SW_app1 (xs := xs) (by omega)]; simp [SW]
  | i + 1 => by rw [← Nat.add_assoc]; simp only [SW, wordAt_app2 h, SW_app2 h i]; omega
def addW (y : Way) : Prop := y.fn = 27 ∧ y.start = 0 ∧ (y.m = 255 ∨ y.m = 65535 ∨ y.m = 4294967295) ∧ y.turn = 0 ∧ (y.word = 1 ∨ y.word = 2 ∨ y.word = 4)
theorem sumV_SW {y : Way} (h : addW y) (big : Bool) {bs : List Int} (hb : Byts bs) : sumV y big bs = SW bs y.word big (bs.length / y.word) % (y.m + 1) := by
  obtain ⟨h1, h2, h3, h4, h5⟩ := h
  rw [sumV_add y big hb h5 h1 h2 h3 h4, addTo_SW]
  rcases h3 with e | e | e <;> rw [e] <;> omega
theorem div_word {k : Nat} (hk : k = 1 ∨ k = 2 ∨ k = 4) {n : Nat} (h : n % 4 = 0) : n = k * (n / k) := by rcases hk with rfl | rfl | rfl <;> omega
theorem sumV_app {y : Way} (h : addW y) (big : Bool) {xs ys : List Int} (hx : Byts xs) (hy : Byts ys) (lx : xs.length % 4 = 0) (ly : ys.length % 4 = 0) :
    sumV y big (xs ++ ys) = (sumV y big xs + sumV y big ys) % (y.m + 1) := by
  rw [sumV_SW h big (hx.append hy), sumV_SW h big hx, sumV_SW h big hy]
  have hk := h.2.2.2.2
  have e1 := div_word hk lx
  have e2 := div_word hk ly
  have e : (xs ++ ys).length / y.word = xs.length / y.word + ys.length / y.word := by
    rw [List.length_append]
    rcases hk with e | e | e <;> rw [e] <;> omega
  rw [e, SW_app2 e1]
  rcases h.2.2.1 with e | e | e <;> rw [e] <;> omega
theorem sumV_bd {y : Way} (h : addW y) (big : Bool) {bs : List Int} (hb : Byts bs) : 0 ≤ sumV y big bs ∧ sumV y big bs < 4294967296 := by
  rw [sumV_SW h big hb]
  rcases h.2.2.1 with e | e | e <;> rw [e] <;> omega
end Go.Proofs.Ytjfdcgpnjjhhoaa
