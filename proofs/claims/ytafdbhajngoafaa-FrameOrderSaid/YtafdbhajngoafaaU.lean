import Derived.Test.YtafdbhajngoafaaE
import Derived.Laws.Bits64b
import Derived.IntWalk
set_option linter.unusedVariables false
namespace Go.Proofs.Ytafdbhajngoafaa
theorem and1_u32 (E : Int) (h0 : 0 ≤ E) (h1 : E < 4294967296) : bits .and .u32 E 1 = E % 2 := by
  obtain ⟨a, rfl⟩ := Int.eq_ofNat_of_zero_le h0
  have e1 : (BitVec.ofInt 32 (a : Int)).toNat = a := by
    rw [BitVec.ofInt_natCast, BitVec.toNat_ofNat]; exact Nat.mod_eq_of_lt (by omega)
  show IntKind.u32.wrap ((BitVec.ofInt 32 (a : Int) &&& BitVec.ofInt 32 ((1 : Nat) : Int)).toNat : Int) = _
  rw [BitVec.toNat_and, e1, BitVec.ofInt_natCast, BitVec.toNat_ofNat]
  rw [show 1 % 2 ^ 32 = 1 from rfl, Nat.and_one_is_mod, IntWalk.u32_in _ (by omega)]
  omega
def bt (X : Int) (i : Nat) : Int := X / 2 ^ i % 2
def hiL (X : Int) (k : Nat) : List Int := (List.range k).map fun j => bt X (28 - j)
def loL (X : Int) (k : Nat) : List Int := (List.range k).map fun j => bt X (17 - j)
def bitsL (R : Int) : List Int := (List.range 30).map fun j => bt R (29 - j)
theorem bitsL_of (X e R : Int) (hR : R = X / 262144 * 524288 + e * 262144 + X % 262144) (e0 : 0 ≤ e) (e1 : e ≤ 1) : hiL X 11 ++ [e] ++ loL X 18 = bitsL R := by
  subst hR
  simp only [hiL, loL, bitsL, bt, List.range, List.range.loop, List.map, List.cons_append, List.nil_append, List.cons.injEq, and_true]
  simp only [Nat.reduceSub, Int.reducePow, Int.ediv_one]
  refine ⟨?_, ?_, ?_, ?_, ?_, ?_, ?_, ?_, ?_, ?_, ?_, ?_, ?_, ?_, ?_, ?_, ?_, ?_, ?_, ?_, ?_, ?_, ?_, ?_, ?_, ?_, ?_, ?_, ?_, ?_⟩ <;> omega
theorem bt_step (R : Int) (k : Nat) (hk : k < 30) : R / 2 ^ (29 - k) = 2 * (R / 2 ^ (30 - k)) + bt R (29 - k) := by
  unfold bt
  have e : (2 : Int) ^ (30 - k) = 2 ^ (29 - k) * 2 := by rw [show 30 - k = (29 - k) + 1 by omega, Int.pow_succ]
  have hp : (0 : Int) < 2 ^ (29 - k) := Int.pow_pos (by omega)
  rw [e, ← Int.ediv_ediv_of_nonneg (Int.le_of_lt hp)]
  generalize R / 2 ^ (29 - k) = q
  omega
theorem bitsL_len (R : Int) : (bitsL R).length = 30 := by simp [bitsL]
theorem bitsL_getD (R : Int) (k : Nat) (hk : k < 30) : (bitsL R).getD k 0 = bt R (29 - k) := by simp [bitsL, List.getD, hk]
theorem bt_range (R : Int) (i : Nat) : bt R i = 0 ∨ bt R i = 1 := by unfold bt; omega
def Pre (R S : Int) (k : Nat) : Prop := R / 2 ^ (30 - k) = S / 2 ^ (30 - k)
theorem Pre.zero {R S : Int} (h0 : 0 ≤ R) (h1 : R < 1073741824) (k0 : 0 ≤ S) (k1 : S < 1073741824) : Pre R S 0 := by
  show R / 1073741824 = S / 1073741824
  omega
theorem Pre.succ {R S : Int} {k : Nat} (h : Pre R S k) (hk : k < 30) (e : bt R (29 - k) = bt S (29 - k)) : Pre R S (k + 1) := by
  unfold Pre at *
  rw [show 30 - (k + 1) = 29 - k by omega, bt_step R k hk, bt_step S k hk, h, e]
theorem Pre.last {R S : Int} (h : Pre R S 30) : R = S := by
  unfold Pre at h
  simpa using h
theorem Pre.lt {R S : Int} {k : Nat} (h : Pre R S k) (hk : k < 30) (e : bt R (29 - k) ≠ bt S (29 - k)) : decide (R < S) = (bt R (29 - k) == 0) := by
  unfold Pre at h
  have h1 := bt_step R k hk
  have h2 := bt_step S k hk
  have hp : (0 : Int) < 2 ^ (29 - k) := Int.pow_pos (by omega)
  rw [h] at h1
  rcases bt_range R (29 - k) with a | a <;> rcases bt_range S (29 - k) with b | b
  · exact absurd (a.trans b.symm) e
  · rw [a] at h1 ⊢; rw [b] at h2
    have : R < S := by
      by_cases l : R < S
      · exact l
      · have := Int.ediv_le_ediv hp (Int.not_lt.1 l)
        omega
    simp [this]
  · rw [a] at h1 ⊢; rw [b] at h2
    have : ¬ R < S := by
      intro l
      have := Int.ediv_le_ediv hp (Int.le_of_lt l)
      omega
    simp [this]
  · exact absurd (a.trans b.symm) e
theorem rank_bits (id : Int) (ext : Bool) (h0 : 0 ≤ id) (h1 : id < idsI ext) : 0 ≤ rankI id ext ∧ rankI id ext < 1073741824 := by
  unfold idsI at h1
  unfold rankI
  cases ext <;> simp at * <;> omega
end Go.Proofs.Ytafdbhajngoafaa
