import Derived.Test.YtpjficfmmfdbjaaJ
import Derived.Test.YtpjficfmmfdbjaaH
set_option linter.unusedVariables false
set_option linter.unusedSimpArgs false
namespace Go.Proofs.Ytpjficfmmfdbjaa
open Go.RowKit
def valX (bs : List Int) (k : Nat) (bg sg : Bool) : Int := if sg then sgn (takeTo bs k bg k) k else takeTo bs k bg k
set_option maxHeartbeats 2000000 in
theorem val_back {bs : List Int} {k : Nat} (bg sg : Bool) (hl : bs.length = k) (hb : Byts bs) (hk : k = 1 ∨ k = 2 ∨ k = 4) :
    fitsB (valX bs k bg sg) k sg = true ∧ putB (IntKind.u64.wrap (valX bs k bg sg)) k bg = bs := by
  rw [IntKind.wrap_u64]
  rcases hk with rfl | rfl | rfl
  · obtain ⟨b0, rfl⟩ : ∃ b0, bs = [b0] := List.length_eq_one_iff.1 hl
    obtain ⟨h0, g0⟩ := hb b0 (by simp)
    cases sg <;> cases bg <;> simp [valX, takeTo, putB, shf, List.range_succ, sgn, fitsB, half, isW] <;> omega
  · obtain ⟨b0, b1, rfl⟩ : ∃ b0 b1, bs = [b0, b1] := by
      match bs, hl with
      | [b0, b1], _ => exact ⟨b0, b1, rfl⟩
    obtain ⟨h0, g0⟩ := hb b0 (by simp)
    obtain ⟨h1, g1⟩ := hb b1 (by simp)
    cases sg <;> cases bg <;> simp [valX, takeTo, putB, shf, List.range_succ, sgn, fitsB, half, isW] <;> omega
  · obtain ⟨b0, b1, b2, b3, rfl⟩ : ∃ b0 b1 b2 b3, bs = [b0, b1, b2, b3] := by
      match bs, hl with
      | [b0, b1, b2, b3], _ => exact ⟨b0, b1, b2, b3, rfl⟩
    obtain ⟨h0, g0⟩ := hb b0 (by simp)
    obtain ⟨h1, g1⟩ := hb b1 (by simp)
    obtain ⟨h2, g2⟩ := hb b2 (by simp)
    obtain ⟨h3, g3⟩ := hb b3 (by simp)
    cases sg <;> cases bg <;> simp [valX, takeTo, putB, shf, List.range_succ, sgn, fitsB, half, isW] <;> omega
theorem take_back {bs : List Int} {k : Nat} {mu ad : Int} (bg sg : Bool) (hl : bs.length = k) (hb : Byts bs) (hk : k = 1 ∨ k = 2 ∨ k = 4) (m0 : -16777216 ≤ mu) (m1 : mu ≤ 16777216) (mz : mu ≠ 0) (a0 : -2147483648 ≤ ad) (a1 : ad < 2147483648) :
    -4611686018427387904 ≤ takeV bs k bg sg mu ad ∧ takeV bs k bg sg mu ad ≤ 4611686018427387904 ∧ (takeV bs k bg sg mu ad - ad).tmod mu = 0 ∧ fitsB ((takeV bs k bg sg mu ad - ad).tdiv mu) k sg = true ∧ putB (IntKind.u64.wrap ((takeV bs k bg sg mu ad - ad).tdiv mu)) k bg = bs := by
  have e : takeV bs k bg sg mu ad - ad = mu * valX bs k bg sg := by unfold takeV valX; omega
  obtain ⟨ht, hd⟩ := T_ok mz e
  obtain ⟨hf, hp⟩ := val_back bg sg hl hb hk
  obtain ⟨q0, q1⟩ := take_x_bd bg hb hk
  obtain ⟨s0, s1⟩ := sgn_bd (v := takeTo bs k bg k) hk
  have x0 : -4294967296 ≤ valX bs k bg sg := by unfold valX; split <;> omega
  have x1 : valX bs k bg sg < 4294967296 := by unfold valX; split <;> omega
  obtain ⟨p0, p1⟩ := mul_bd m0 m1 x0 x1
  rw [hd]
  exact ⟨by omega, by omega, ht, hf, hp⟩
end Go.Proofs.Ytpjficfmmfdbjaa
