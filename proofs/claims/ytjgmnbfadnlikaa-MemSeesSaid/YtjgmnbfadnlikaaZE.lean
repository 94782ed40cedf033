import Derived.Test.YtjgmnbfadnlikaaZD
set_option linter.unusedVariables false
set_option linter.unusedSimpArgs false
namespace Go.Proofs.Ytjgmnbfadnlikaa
open Go.RowKit
theorem MemSees_all (w : World) (m : MP) (sA fA : Option Addr) (sc fc : Nat) (aA : Option Addr) (aN aC : Nat) (l : List Ac) (a2 a3 : Int) (h : MpR w m sA fA sc fc) (hnc : aN ≤ aC) (hcm : aC ≤ maxLen) (hl : aN = l.length) (hs : Shows w 7 aA aN (l.flatMap Ac.vals)) (hok : ∀ a ∈ l, a.ok w) (l2 : 0 ≤ a2) (h2 : a2 < 256) (l3 : 0 ≤ a3) (h3 : a3 < 256) :
    Calls Try.prog 8 #[.agg #[.int .i64 m.ram, .slice sA m.segs.length sc, .slice fA m.flash.length fc], .slice aA aN aC, .int .u8 a2, .int .u8 a3] w fun e w' => e = .returned (.bool true) ∧ Ext w w' := by
  obtain ⟨b2, rfl⟩ := Int.eq_ofNat_of_zero_le l2
  obtain ⟨b3, rfl⟩ := Int.eq_ofNat_of_zero_le l3
  exact MemSees_law w m sA fA sc fc aA aN aC l b2 b3 h hnc hcm hl hs hok (by omega) (by omega)
end Go.Proofs.Ytjgmnbfadnlikaa
