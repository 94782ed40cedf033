import Derived.Test.YtnfipfgbckbaeaaG
set_option linter.unusedVariables false
namespace Go.Proofs.Ytnfipfgbckbaeaa
open Go.RowKit
theorem same_any (c a0 a1 a2 a3 a4 W : Int) (A B : Option Addr) (n cp m cq : Nat) (bs : List Int) (w : World) (hr : Rd w A n bs) (hs : Rd w B m bs) :
    Calls Try.prog 16 #[.agg #[.int .u8 c, .int .u8 a0, .int .u8 a1, .int .u8 a2, .int .u8 a3, .int .u8 a4, .int .u32 W, .slice A n cp], .agg #[.int .u8 c, .int .u8 a0, .int .u8 a1, .int .u8 a2, .int .u8 a3, .int .u8 a4, .int .u32 W, .slice B m cq]] w fun e w' => e = .returned (.bool true) ∧ Ext w w' := by
  have heq := fun d W => run_eq5 d W
  have s1 := fun W (h : Ext w W) => str (c := cp) (hr.ext h)
  have s2 := fun W (h : Ext w W) => str (c := cq) (hs.ext h)
  have t1 := s1 _ (((Ext.refl w).alloc (.cells #[.int .u8 c, .int .u8 a0, .int .u8 a1, .int .u8 a2, .int .u8 a3, .int .u8 a4, .int .u32 W, .slice A n cp] 26)).alloc (.cells #[.int .u8 c, .int .u8 a0, .int .u8 a1, .int .u8 a2, .int .u8 a3, .int .u8 a4, .int .u32 W, .slice B m cq] 26))
  have t2 := s2 _ (((Ext.refl w).alloc (.cells #[.int .u8 c, .int .u8 a0, .int .u8 a1, .int .u8 a2, .int .u8 a3, .int .u8 a4, .int .u32 W, .slice A n cp] 26)).alloc (.cells #[.int .u8 c, .int .u8 a0, .int .u8 a1, .int .u8 a2, .int .u8 a3, .int .u8 a4, .int .u32 W, .slice B m cq] 26))
  clear s1 s2
  go_enter Try.func16, Try.ntmps16
  go_wp2
  go_ret
  exact ⟨by simp, ((Ext.refl _).alloc _).alloc _⟩
end Go.Proofs.Ytnfipfgbckbaeaa
