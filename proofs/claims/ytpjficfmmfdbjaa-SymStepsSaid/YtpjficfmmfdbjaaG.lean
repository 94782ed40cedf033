import Derived.Test.YtpjficfmmfdbjaaF1f
import Derived.Test.YtpjficfmmfdbjaaF1t
import Derived.Test.YtpjficfmmfdbjaaF2f
import Derived.Test.YtpjficfmmfdbjaaF2t
import Derived.Test.YtpjficfmmfdbjaaF4f
import Derived.Test.YtpjficfmmfdbjaaF4t
set_option linter.unusedVariables false
namespace Go.Proofs.Ytpjficfmmfdbjaa
open Go.RowKit
set_option maxRecDepth 100000 in
theorem SymSteps_law (w : World) (s : ByteArray) (ar aa wd : Int) (bg sg : Bool) (mu ad : Int) (hs : s.size ≤ maxLen) (mm0 : -2147483648 ≤ mu) (mm1 : mu < 2147483648) (a0 : -2147483648 ≤ ad) (a1 : ad < 2147483648) :
    Calls Try.prog 6 #[.agg #[.string s, .int .u8 ar, .int .u32 aa, .int .i64 wd, .bool bg, .bool sg, .int .i32 mu, .int .i32 ad]] w fun e w' => e = .returned (.bool true) ∧ Ext w w' := by
  have h3 : wd % 1024 % 3 = 0 ∨ wd % 1024 % 3 = 1 ∨ wd % 1024 % 3 = 2 := by omega
  rcases h3 with h3 | h3 | h3 <;> rcases hg : sg with _ | _
  · exact steps_1f w s ar aa wd bg mu ad h3 hs mm0 mm1 a0 a1
  · exact steps_1t w s ar aa wd bg mu ad h3 hs mm0 mm1 a0 a1
  · exact steps_2f w s ar aa wd bg mu ad h3 hs mm0 mm1 a0 a1
  · exact steps_2t w s ar aa wd bg mu ad h3 hs mm0 mm1 a0 a1
  · exact steps_4f w s ar aa wd bg mu ad h3 hs mm0 mm1 a0 a1
  · exact steps_4t w s ar aa wd bg mu ad h3 hs mm0 mm1 a0 a1
end Go.Proofs.Ytpjficfmmfdbjaa
