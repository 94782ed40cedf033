import Derived.Test.YtafdbhajngoafaaJ
set_option linter.unusedVariables false
namespace Go.Proofs.Ytafdbhajngoafaa
open Go.RowKit
theorem may_nat {id : Int} {ext : Bool} {len : Int} {bs : List Int} (h : mayB id ext len bs = true) : ∃ L : Nat, len = L := by
  simp [mayB] at h
  exact Int.eq_ofNat_of_zero_le h.1.1.2
theorem FrameReads_law (w : World) (id : Int) (ext : Bool) (len b0 b1 b2 b3 b4 b5 b6 b7 : Int) (i0 : 0 ≤ id) (i1 : id < 4294967296) (l0 : -9223372036854775808 ≤ len) (l1 : len < 9223372036854775808) (hb : Byts [b0, b1, b2, b3, b4, b5, b6, b7]) (x : Int) (x0 : 0 ≤ x) (x1 : x < 256) :
    Calls Try.prog 4 #[.agg #[.int .u32 id, .bool ext, .int .i64 len, .int .u8 b0, .int .u8 b1, .int .u8 b2, .int .u8 b3, .int .u8 b4, .int .u8 b5, .int .u8 b6, .int .u8 b7], .int .u8 x] w fun e w' => e = .returned (.bool true) ∧ Ext w w' := by
  by_cases hm : mayB id ext len [b0, b1, b2, b3, b4, b5, b6, b7] = true
  · obtain ⟨L, rfl⟩ := may_nat hm
    exact reads_yes w id ext L b0 b1 b2 b3 b4 b5 b6 b7 i0 hb x hm
  · exact reads_no w id ext len b0 b1 b2 b3 b4 b5 b6 b7 i0 i1 l0 l1 hb x x0 x1 (by simpa using hm)
end Go.Proofs.Ytafdbhajngoafaa
