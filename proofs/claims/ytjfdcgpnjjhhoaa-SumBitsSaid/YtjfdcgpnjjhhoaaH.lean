import Derived.Test.YtjfdcgpnjjhhoaaG
set_option linter.unusedVariables false
set_option linter.unusedSimpArgs false
namespace Go.Proofs.Ytjfdcgpnjjhhoaa
open Go.RowKit
theorem rword_any (kind : Int) (w : World) : Calls Try.prog 14 #[.int .u8 kind] w fun e w' => e = .returned (.int .i64 (wordK kind)) ∧ w = w' := by
  unfold wordK
  rcases h : wayK kind with _ | y
  · have hn : kind ≠ 1 ∧ kind ≠ 2 ∧ kind ≠ 3 ∧ kind ≠ 4 ∧ kind ≠ 5 ∧ kind ≠ 6 ∧ kind ≠ 7 ∧ kind ≠ 8 ∧ kind ≠ 9 := by
      refine ⟨?_, ?_, ?_, ?_, ?_, ?_, ?_, ?_, ?_⟩ <;> (rintro rfl; simp [wayK] at h)
    obtain ⟨h1, h2, h3, h4, h5, h6, h7, h8, h9⟩ := hn
    have b1 : (kind == 1) = false := by simpa using h1
    have b2 : (kind == 2) = false := by simpa using h2
    have b3 : (kind == 3) = false := by simpa using h3
    have b4 : (kind == 4) = false := by simpa using h4
    have b5 : (kind == 5) = false := by simpa using h5
    have b6 : (kind == 6) = false := by simpa using h6
    have b7 : (kind == 7) = false := by simpa using h7
    have b8 : (kind == 8) = false := by simpa using h8
    have b9 : (kind == 9) = false := by simpa using h9
    clear h h1 h2 h3 h4 h5 h6 h7 h8 h9
    go_enter Try.func14, Try.ntmps14
    go_wp2
    go_ret
    exact ⟨rfl, rfl⟩
  · rcases way_cases h with ⟨rfl, rfl⟩ | ⟨rfl, rfl⟩ | ⟨rfl, rfl⟩ | ⟨rfl, rfl⟩ | ⟨rfl, rfl⟩ | ⟨rfl, rfl⟩ | ⟨rfl, rfl⟩ | ⟨rfl, rfl⟩ | ⟨rfl, rfl⟩
    all_goals
      clear h
      go_enter Try.func14, Try.ntmps14
      go_wp2
      go_ret
      exact ⟨rfl, rfl⟩
theorem add_eq (y : Way) (big : Bool) {bs : List Int} (hb : Byts bs) (hw : y.word = 1 ∨ y.word = 2 ∨ y.word = 4) (hf : y.fn = 27) (hs : y.start = 0) (hm : y.m = 255 ∨ y.m = 65535 ∨ y.m = 4294967295) : ∀ i, sumTo y big bs i = addTo bs y.word big i % (y.m + 1)
  | 0 => by simp [sumTo, addTo, hs]
  | i + 1 => by
    show stepW y.fn y.m (sumTo y big bs i) (wordAt bs y.word big i) = (addTo bs y.word big i + wordAt bs y.word big i) % 18446744073709551616 % (y.m + 1)
    rw [add_eq y big hb hw hf hs hm i, hf]
    show addS y.m _ _ = _
    unfold addS
    obtain ⟨a0, a1⟩ := addTo_bd bs y.word big i
    obtain ⟨t0, t1⟩ := wordAt_bd hb big i hw
    generalize addTo bs y.word big i = a at *
    generalize wordAt bs y.word big i = x at *
    rcases hm with h | h | h <;> rw [h]
    · rw [and_255 _ (by omega) (by omega)]; omega
    · rw [and_65535 _ (by omega) (by omega)]; omega
    · rw [and_all _ (by omega) (by omega)]; omega
theorem xor_zero {a : Int} (h0 : 0 ≤ a) (h1 : a < 4294967296) : bits .xor .u32 a 0 = a := by
  rw [u32_xor a 0 h0 h1 (by omega) (by omega)]
  simp
  omega
theorem xor_ones {a : Int} (h0 : 0 ≤ a) (h1 : a < 4294967296) : bits .xor .u32 a 4294967295 = 4294967295 - a := by
  rw [u32_xor a _ h0 h1 (by omega) (by omega)]
  have h : a.toNat ^^^ (4294967295 : Int).toNat = 4294967295 - a.toNat := by
    have h3 : a.toNat < 2 ^ 32 := by omega
    have := Nat.eq_of_testBit_eq (x := a.toNat ^^^ 4294967295) (y := 4294967295 - a.toNat) (fun i => by
      have e : (4294967295 : Nat) - a.toNat = 2 ^ 32 - (a.toNat + 1) := by omega
      rw [Nat.testBit_xor, e, Nat.testBit_two_pow_sub_succ h3, show (4294967295 : Nat) = 2 ^ 32 - 1 by decide, Nat.testBit_two_pow_sub_one]
      by_cases hi : i < 32
      · simp [hi]
      · simp [hi]
        exact Nat.testBit_lt_two_pow (Nat.lt_of_lt_of_le h3 (Nat.pow_le_pow_right (by omega) (by omega))))
    exact this
  rw [h]
  omega
theorem rof_none (kind : Int) (A : Option Addr) (n c : Nat) (big : Bool) (w : World) (h : wayK kind = none) : Calls Try.prog 11 #[.int .u8 kind, .slice A n c, .bool big] w fun e w' => e = .returned (.tuple #[.int .u32 0, .int .i64 1]) ∧ Ext w w' := by
  have H : Hid (wordK kind = 0) := by show _ = _; unfold wordK; rw [h]
  clear h
  go_enter Try.func11, Try.ntmps11
  go_wp2_with (go_at_call 14; (refine (rword_any _ _).mono ?_); rintro e w1 ⟨rfl, rfl⟩; rw [H.out])
  go_ret2
  exact ⟨rfl, Ext.refl _⟩
theorem rof_short (kind : Int) (y : Way) (hy : wayK kind = some y) (A : Option Addr) (n c : Nat) (big : Bool) (w : World) (hn : n ≤ maxLen) (hm : n % y.word ≠ 0) :
    Calls Try.prog 11 #[.int .u8 kind, .slice A n c, .bool big] w fun e w' => e = .returned (.tuple #[.int .u32 0, .int .i64 5]) ∧ Ext w w' := by
  have hw := (way_ok hy).word
  have H : Hid (wordK kind = y.word) := by show _ = _; unfold wordK; rw [hy]
  have h0 : ((y.word : Int) == 0) = false := by simp; omega
  obtain ⟨q, hq⟩ : ∃ q, n % y.word = q := ⟨_, rfl⟩
  have ht : ((n : Int).tmod y.word) = q := by rw [tmod_nat, hq]
  have hb : ((q : Int) != 0) = true := by simp; omega
  clear hm hy hq
  unfold maxLen at hn
  go_enter Try.func11, Try.ntmps11
  go_wp2_with (go_at_call 14; (refine (rword_any _ _).mono ?_); rintro e w1 ⟨rfl, rfl⟩; rw [H.out])
  go_ret2
  exact ⟨rfl, Ext.refl _⟩
end Go.Proofs.Ytjfdcgpnjjhhoaa
