import Derived.Test.YtjgmnbfadnlikaaZ
set_option linter.unusedVariables false
set_option linter.unusedSimpArgs false
namespace Go.Proofs.Ytjgmnbfadnlikaa
open Go.RowKit
theorem MemPages_all (w : World) (m : MP) (sA fA : Option Addr) (sc fc : Nat) (a1 a2 a3 a4 : Int) (bA : Option Addr) (bn bc : Nat) (bs : List Int) (h : MpR w m sA fA sc fc) (l1 : 0 ≤ a1) (h1 : a1 < 256) (l2 : 0 ≤ a2) (h2 : a2 < 256) (l3 : 0 ≤ a3) (h3 : a3 < 256) (l4 : 0 ≤ a4) (h4 : a4 < 256) (hb : Rd w bA bn bs) (hbc : bn ≤ bc) (hbm : bc ≤ maxLen) :
    Calls Try.prog 6 #[.agg #[.int .i64 m.ram, .slice sA m.segs.length sc, .slice fA m.flash.length fc], .int .u8 a1, .int .u8 a2, .int .u8 a3, .int .u8 a4, .slice bA bn bc] w fun e w' => e = .returned (.bool true) ∧ Ext w w' := by
  obtain ⟨b1, rfl⟩ := Int.eq_ofNat_of_zero_le l1
  obtain ⟨b2, rfl⟩ := Int.eq_ofNat_of_zero_le l2
  obtain ⟨b3, rfl⟩ := Int.eq_ofNat_of_zero_le l3
  obtain ⟨b4, rfl⟩ := Int.eq_ofNat_of_zero_le l4
  exact MemPages_law w m sA fA sc fc b1 b2 b3 b4 bA bn bc bs h (by omega) (by omega) (by omega) (by omega) hb hbc hbm
end Go.Proofs.Ytjgmnbfadnlikaa
