import Derived.Test.YtjdabmadpclbaaaBP
set_option linter.unusedVariables false
set_option linter.unusedSimpArgs false
namespace Go.Proofs.Ytjdabmadpclbaaa
open Go.RowKit
theorem BusComes_law (w : World) (id : Int) (ext : Bool) (len b0 b1 b2 b3 b4 b5 b6 b7 : Int) (h0 : 0 ≤ id) (h1 : id < 4294967296) (who : Int) (q0 : 0 ≤ who) (q1 : who < 256) (a0 a1 a2 lost : Bool) : Calls Try.prog 5 #[.agg #[.int .u32 id, .bool ext, .int .i64 len, .int .u8 b0, .int .u8 b1, .int .u8 b2, .int .u8 b3, .int .u8 b4, .int .u8 b5, .int .u8 b6, .int .u8 b7], .int .u8 who, .agg #[.bool a0, .bool a1, .bool a2], .bool lost] w fun e w' => e = .returned (.bool true) ∧ Ext w w' :=
  comes_law w ⟨id, ext, len, b0, b1, b2, b3, b4, b5, b6, b7⟩ ⟨h0, h1⟩ who q0 q1 a0 a1 a2 lost
end Go.Proofs.Ytjdabmadpclbaaa
