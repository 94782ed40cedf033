import Derived.Test.YtjfdcgpnjjhhoaaL
set_option linter.unusedVariables false
namespace Go.Proofs.Ytjfdcgpnjjhhoaa
open Go.RowKit
theorem foldTo_snoc {S : Int → Int → Int} {s : Int} {bs : List Int} : ∀ {i : Nat}, i ≤ bs.length → foldTo S s bs i = (bs.take i).foldl S s
  | 0, _ => by simp [foldTo]
  | i + 1, h => by
    rw [List.take_succ_eq_append_getElem (by omega), List.foldl_append]
    simp only [foldTo, List.foldl_cons, List.foldl_nil]
    rw [foldTo_snoc (by omega), List.getD_eq_getElem?_getD, List.getElem?_eq_getElem (by omega)]
    rfl
theorem foldTo_all (S : Int → Int → Int) (s : Int) (bs : List Int) : foldTo S s bs bs.length = bs.foldl S s := by
  rw [foldTo_snoc (Nat.le_refl _), List.take_length]
abbrev y7 : Way := ⟨1, 0, 28, 40961, 0⟩
abbrev H7 := halfS 40961
theorem half1_bd16 {b r : Int} (hb : 0 ≤ b ∧ b < 65536) (hr : 0 ≤ r ∧ r < 65536) : 0 ≤ half1 b r ∧ half1 b r < 65536 := by
  unfold half1
  split
  · exact xor_bd16 (by omega) hb
  · omega
theorem H7_bd {r x : Int} (hr : 0 ≤ r ∧ r < 65536) (hx : 0 ≤ x ∧ x < 256) : 0 ≤ H7 r x ∧ H7 r x < 65536 :=
  it_bd (fun r hr => half1_bd16 (by omega) hr) (xor_bd16 hr (by omega)) 8
theorem fold_bd16 : ∀ {bs : List Int} {s : Int}, Byts bs → 0 ≤ s ∧ s < 65536 → 0 ≤ bs.foldl H7 s ∧ bs.foldl H7 s < 65536
  | [], _, _, hs => hs
  | x :: xs, s, hb, hs => fold_bd16 (bs := xs) (fun b h => hb b (by simp [h])) (H7_bd hs (hb x (by simp)))
theorem sum7 (big : Bool) {bs : List Int} (hb : Byts bs) : sumV y7 big bs = bs.foldl H7 0 := by
  rw [sumV_low y7 big hb (way_ok (kind := 7) rfl) rfl rfl]
  show bits .xor .u32 (foldTo (halfS 40961) 0 bs bs.length) 0 = _
  rw [foldTo_all]
  have := fold_bd16 hb (s := 0) (by omega)
  have h2 : bs.foldl H7 0 < 4294967296 := by omega
  exact xor_zero this.1 h2
theorem H7_00 : H7 0 0 = 0 := by decide +kernel
theorem half_even (b q : Int) : half1 b (q * 2) = q := by
  unfold half1
  rw [if_neg (by omega)]
  omega
theorem half8 (b q : Int) : it (half1 b) 8 (q * 256) = q := by
  have e : q * 256 = q * 2 * 2 * 2 * 2 * 2 * 2 * 2 * 2 := by omega
  rw [e]
  simp only [it, half_even]
theorem xor_low {n : Int} (h0 : 0 ≤ n) (h1 : n < 65536) : bits .xor .u32 n (n % 256) = n / 256 * 256 := by
  rw [u32_xor n _ h0 (by omega) (by omega) (by omega)]
  obtain ⟨m, rfl⟩ := Int.eq_ofNat_of_zero_le h0
  have hm : m < 65536 := by omega
  have e : m ^^^ (m % 256) = m / 256 * 256 := by
    apply Nat.eq_of_testBit_eq
    intro i
    rw [Nat.testBit_xor, show (256 : Nat) = 2 ^ 8 by decide, Nat.testBit_mod_two_pow, Nat.testBit_mul_two_pow, Nat.testBit_div_two_pow]
    by_cases hi : i < 8
    · simp [hi, show ¬ 8 ≤ i by omega]
    · simp [hi, show 8 ≤ i by omega, Nat.sub_add_cancel]
  have e1 : ((m : Int)).toNat = m := by omega
  have e2 : ((m : Int) % 256).toNat = m % 256 := by omega
  rw [e1, e2, e]
  omega
theorem xor_self {n : Int} (h0 : 0 ≤ n) (h1 : n < 65536) : bits .xor .u32 n n = 0 := by
  rw [u32_xor n n h0 (by omega) h0 (by omega), Nat.xor_self]
  rfl
theorem own_zero {n : Int} (h0 : 0 ≤ n) (h1 : n < 65536) : H7 (H7 n (n % 256)) (n / 256) = 0 := by
  have e1 : H7 n (n % 256) = n / 256 := by
    show it (half1 40961) 8 (bits .xor .u32 n (n % 256)) = _
    rw [xor_low h0 h1, half8]
  rw [e1]
  show it (half1 40961) 8 (bits .xor .u32 (n / 256) (n / 256)) = 0
  rw [xor_self (by omega) (by omega)]
  exact half8 40961 0
theorem part_facts {X Y : List Int} (hx : Byts X) (hy : Byts Y) (big : Bool) :
    ∃ n a b m all z : Int, (0 ≤ n ∧ n < 65536) ∧ n % 256 = a ∧ n / 256 = b ∧ Byts ([a, b] ++ Y) ∧ sumV y7 true X = n ∧ sumV y7 true ([a, b] ++ Y) = m ∧ sumV y7 true (X ++ ([0, 0] ++ Y)) = all ∧ sumV y7 true (X ++ [a, b]) = 0 ∧ sumV y7 true ([0, 0] ++ Y) = z ∧ sumV y7 false Y = z ∧
      (n ≠ 0 ∨ (n = 0 ∧ m = z ∧ all = z)) := by
  have hb := fold_bd16 hx (s := 0) (by omega)
  have h00 : Byts [0, 0] := by intro b hb; simp at hb; omega
  have hab : Byts [X.foldl H7 0 % 256, X.foldl H7 0 / 256] := by intro b hb; simp at hb; omega
  refine ⟨X.foldl H7 0, _, _, _, _, Y.foldl H7 0, hb, rfl, rfl, hab.append hy, sum7 true hx, rfl, rfl, ?_, ?_, sum7 false hy, ?_⟩
  · rw [sum7 true (hx.append hab), List.foldl_append]
    exact own_zero hb.1 hb.2
  · rw [sum7 true (h00.append hy), List.foldl_append]
    simp only [List.foldl_cons, List.foldl_nil, H7_00]
  · by_cases hz : X.foldl H7 0 = 0
    · refine .inr ⟨hz, ?_, ?_⟩
      · rw [sum7 true (hab.append hy), hz, List.foldl_append]
        have e : H7 (H7 0 (0 % 256)) (0 / 256) = 0 := by decide +kernel
        simp only [List.foldl_cons, List.foldl_nil, e]
      · rw [sum7 true (hx.append (h00.append hy)), List.foldl_append, hz, List.foldl_append]
        simp only [List.foldl_cons, List.foldl_nil, H7_00]
    · exact .inl hz
end Go.Proofs.Ytjfdcgpnjjhhoaa
