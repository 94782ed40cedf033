import Derived.Test.YtnjiajogbadadaaObj
import Derived.Test.YtnjiajogbadadaaNum
import Derived.Test.YtnjiajogbadadaaM
set_option linter.unusedVariables false
set_option linter.unusedSimpArgs false
namespace Go.Proofs.Ytnjiajogbadadaa
open Go.RowKit
theorem cells6 {w : World} {g : Nat} {t : TypeId} {fr : Nat × Nat} {x0 x1 x2 x3 x4 x5 : Value} (h : w.heap[g]? = some (.cells #[x0, x1, x2, x3, x4, x5] t fr)) :
    w.cell? ⟨g, 0, none⟩ = some x0 ∧ w.cell? ⟨g, 1, none⟩ = some x1 ∧ w.cell? ⟨g, 2, none⟩ = some x2 ∧ w.cell? ⟨g, 3, none⟩ = some x3 ∧ w.cell? ⟨g, 4, none⟩ = some x4 ∧ w.cell? ⟨g, 5, none⟩ = some x5 :=
  ⟨blk_cell h rfl, blk_cell h rfl, blk_cell h rfl, blk_cell h rfl, blk_cell h rfl, blk_cell h rfl⟩
theorem noSeed_any (g : Nat) (all lk : Int) (sA : Option Addr) (sn sc : Nat) (res told : Int) (kA : Option Addr) (kn kc : Nat) (w : World) (K : w.heap[g]? = some (.cells #[.int .u8 all, .int .u8 lk, .slice sA sn sc, .int .u8 res, .int .i64 told, .slice kA kn kc] 48 (0, 0))) :
    Calls Try.prog 24 #[.pointer (some ⟨g, 0, none⟩)] w fun e w' => e = .returned (.tuple #[]) ∧ w'.heap[g]? = some (.cells #[.int .u8 all, .int .u8 lk, .slice none 0 0, .int .u8 0, .int .i64 0, .slice none 0 0] 48 (0, 0)) ∧ w.grownBy w' (some g) := by
  obtain ⟨f0, f1, f2, f3, f4, f5⟩ := cells6 K
  have z2 := blk_free (i := 2) K
  have z3 := blk_free (i := 3) K
  have z4 := blk_free (i := 4) K
  have z5 := blk_free (i := 5) K
  go_enter Try.func24, Try.ntmps24
  go_wp2
  go_end0
  obtain ⟨W2, hW2, K2, x2⟩ := set_new 2 (.slice none 0 0) K
  rw [← hW2]; clear hW2
  obtain ⟨W3, hW3, K3, x3⟩ := set_new 3 (.int .u8 0) K2
  rw [← hW3]; clear hW3
  obtain ⟨W4, hW4, K4, x4⟩ := set_new 4 (.int .i64 0) K3
  rw [← hW4]; clear hW4
  obtain ⟨W5, hW5, K5, x5⟩ := set_new 5 (.slice none 0 0) K4
  rw [← hW5]; clear hW5
  exact ⟨rfl, K5, x2.trans (x3.trans (x4.trans x5))⟩
theorem isOne_any (r : Int) (w : World) : Calls Try.prog 23 #[.int .u8 r] w fun e w' => e = .returned (.bool (r == 1 || r == 4 || r == 8)) ∧ w = w' := by
  by_cases h1 : r = 1
  · subst h1
    go_enter Try.func23, Try.ntmps23
    go_wp2
    go_ret
    exact ⟨rfl, rfl⟩
  · by_cases h4 : r = 4
    · subst h4
      go_enter Try.func23, Try.ntmps23
      go_wp2
      go_ret
      exact ⟨rfl, rfl⟩
    · have b1 : (r == 1) = false := by simpa using h1
      have b4 : (r == 4) = false := by simpa using h4
      go_enter Try.func23, Try.ntmps23
      go_wp2
      go_ret
      exact ⟨by simp [b1, b4], rfl⟩
theorem locked_any (g : Nat) (all lk : Int) (sA : Option Addr) (sn sc : Nat) (res told : Int) (kA : Option Addr) (kn kc : Nat) (w : World) (K : w.heap[g]? = some (.cells #[.int .u8 all, .int .u8 lk, .slice sA sn sc, .int .u8 res, .int .i64 told, .slice kA kn kc] 48 (0, 0))) :
    Calls Try.prog 19 #[.pointer (some ⟨g, 0, none⟩)] w fun e w' => e = .returned (.int .u8 lk) ∧ w = w' := by
  obtain ⟨f0, f1, f2, f3, f4, f5⟩ := cells6 K
  go_enter Try.func19, Try.ntmps19
  go_wp2
  go_ret
  exact ⟨rfl, rfl⟩
theorem locked_nil (w : World) : Calls Try.prog 19 #[.pointer none] w fun e w' => e = .returned (.int .u8 0) ∧ w = w' := by
  go_enter Try.func19, Try.ntmps19
  go_wp2
  go_ret
  exact ⟨rfl, rfl⟩
theorem relock_nil (w : World) : Calls Try.prog 17 #[.pointer none] w fun e w' => e = .returned (.tuple #[]) ∧ w = w' := by
  go_enter Try.func17, Try.ntmps17
  go_wp2
  try simp only [Exit.inBlock, Exit.then]
  refine bodyPost_ret (results_none rfl _ _ _) rfl ?_
  exact ⟨rfl, rfl⟩
theorem relock_any (g : Nat) (all lk : Int) (sA : Option Addr) (sn sc : Nat) (res told : Int) (kA : Option Addr) (kn kc : Nat) (w : World) (K : w.heap[g]? = some (.cells #[.int .u8 all, .int .u8 lk, .slice sA sn sc, .int .u8 res, .int .i64 told, .slice kA kn kc] 48 (0, 0))) :
    Calls Try.prog 17 #[.pointer (some ⟨g, 0, none⟩)] w fun e w' => e = .returned (.tuple #[]) ∧ w'.heap[g]? = some (.cells #[.int .u8 all, .int .u8 all, .slice none 0 0, .int .u8 0, .int .i64 0, .slice none 0 0] 48 (0, 0)) ∧ w.grownBy w' (some g) := by
  obtain ⟨f0, f1, f2, f3, f4, f5⟩ := cells6 K
  have z1 := blk_free (i := 1) K
  go_enter Try.func17, Try.ntmps17
  go_upto_region 2 with (fail)
  obtain ⟨W2, hW2, K2, x2⟩ := set_new 1 (.int .u8 all) K
  rw [← hW2]; clear hW2
  go_wp2_with (go_at_call 24; (refine (noSeed_any _ _ _ _ _ _ _ _ _ _ _ _ K2).mono ?_); rintro e w3 ⟨rfl, K3, x3⟩)
  go_end0
  exact ⟨rfl, K3, x2.trans x3⟩
theorem new_any (r : Int) (w : World) : Calls Try.prog 9 #[.int .u8 r] w fun e w' => e = .returned (.pointer (some ⟨w.heap.size, 0, none⟩)) ∧ w'.heap[w.heap.size]? = some (.cells #[.int .u8 (bits .and .u8 r 13), .int .u8 (bits .and .u8 r 13), .slice none 0 0, .int .u8 0, .int .i64 0, .slice none 0 0] 48 (0, 0)) ∧ Ext w w' := by
  go_enter Try.func9, Try.ntmps9
  go_wp2
  go_ret
  exact ⟨rfl, heap_alloc_new _ _, (Ext.refl w).alloc _⟩
end Go.Proofs.Ytnjiajogbadadaa
