import Derived.Test.YtpjficfmmfdbjaaD
import Derived.Laws.Bits64b
set_option linter.unusedVariables false
set_option linter.unusedSimpArgs false
namespace Go.Proofs.Ytpjficfmmfdbjaa
open Go.RowKit
theorem and_1023 (x : Int) : bits .and .i64 x 1023 = x % 1024 := by
  have h2 : (BitVec.ofInt 64 (1023 : Int)).toNat = 1023 := by decide
  have h1 : ((BitVec.ofInt 64 x).toNat : Int) = x % 18446744073709551616 := by
    rw [BitVec.toNat_ofInt]; simp; omega
  show IntKind.i64.wrap ((BitVec.ofInt 64 x &&& BitVec.ofInt 64 (1023 : Int)).toNat : Int) = _
  rw [BitVec.toNat_and, h2, show (1023 : Nat) = 2 ^ 10 - 1 from rfl, Nat.and_two_pow_sub_one_eq_mod, IntWalk.i64_in _ (by omega)]
  omega
def StepX (k : Nat) (bg sg : Bool) (mu ad : Int) (v4 : Value) (wr : World) : Prop :=
  ∃ g, v4 = .pointer (some ⟨g, 0, none⟩) ∧ wr.heap[g]? = some (.cells #[.string ⟨#[120]⟩, .int .u8 0, .int .u32 0, .int .i64 k, .bool bg, .bool sg, .int .i32 mu, .int .i32 ad] 24 (0, 0))
theorem T_ok {mu ad c v : Int} (mz : mu ≠ 0) (h : v - ad = mu * c) : (v - ad).tmod mu = 0 ∧ (v - ad).tdiv mu = c := by
  rw [h]
  exact ⟨Int.mul_tmod_right _ _, Int.mul_tdiv_cancel_left _ mz⟩
theorem T_one {mu ad c v : Int} (m1 : mu ≠ 1) (m2 : mu ≠ -1) (h : v - ad = mu * c + 1) : (v - ad).tmod mu ≠ 0 := by
  rw [h]
  intro ht
  have hd : mu ∣ mu * c + 1 := Int.dvd_of_tmod_eq_zero ht
  have h1 : mu ∣ 1 := (Int.dvd_add_right (Int.dvd_mul_right mu c)).1 hd
  have := Int.natAbs_dvd_natAbs.2 h1
  have h3 : mu.natAbs = 1 := Nat.dvd_one.1 this
  omega
end Go.Proofs.Ytpjficfmmfdbjaa
