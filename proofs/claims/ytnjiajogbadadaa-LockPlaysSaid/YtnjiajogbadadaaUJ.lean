import Derived.Test.YtnjiajogbadadaaUI
set_option linter.unusedVariables false
set_option linter.unusedSimpArgs false
namespace Go.Proofs.Ytnjiajogbadadaa
open Go.RowKit
theorem LockPlays_all (w : World) (r : Int) (A : Option Addr) (n c : Nat) (l : List Ac) (r0 : 0 ≤ r) (r1 : r < 256) (nc : n ≤ c) (cm : c ≤ maxLen) (hl : n = l.length) (hs : Shows w 5 A n (l.flatMap Ac.vals)) (hok : ∀ a ∈ l, a.ok w) :
    Calls Try.prog 3 #[.int .u8 r, .slice A n c] w fun e w' => e = .returned (.bool true) ∧ Ext w w' :=
  LockPlays_law w r A n c l r0 r1 hs hl (Nat.le_trans nc cm) hok
end Go.Proofs.Ytnjiajogbadadaa
