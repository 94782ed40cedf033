import Derived.Test.YtafdbhajngoafaaE
set_option linter.unusedVariables false
namespace Go.Proofs.Ytafdbhajngoafaa
open Go.RowKit
theorem str {w : World} {A : Option Addr} {n c : Nat} {bs : List Int} (hr : Rd w A n bs) : (convert 23 9 (.slice A n c)).run Try.prog w = .ok (.string (strOfNums bs)) w := run_str Try.underlying23 Try.underlying5 Try.underlying9 hr
theorem FrameMakes_law (w : World) (id : Int) (h0 : 0 ≤ id) (ext : Bool) (A : Option Addr) (n c : Nat) (bs : List Int) (hr : Rd w A n bs) (hnc : n ≤ c) (hc : c ≤ maxLen) :
    Calls Try.prog 3 #[.int .u32 id, .bool ext, .slice A n c] w fun e w' => e = .returned (.bool true) ∧ Ext w w' := by
  have hr' := hr.take (k := min n 20) (by omega)
  generalize hmm : min n 20 = m at *
  have HM := Lib.hid hmm; clear hmm
  have heq := fun d W => run_eq8 d W
  by_cases hid : id < idsI ext
  · by_cases hm : (m : Int) ≤ 8
    · go_enter Try.func3, Try.ntmps3
      go_wp2_with (first
        | (go_at_call 11; (with_reducible refine (few_any _ _ _ _ hnc hc).mono ?_); rintro e w' ⟨rfl, rfl⟩; rw [HM.out])
        | (go_at_call 10; (with_reducible refine (make_any _ _ _ _ _ _ _ hr' hid hm).mono ?_); rintro e w1 ⟨y0, y1, y2, y3, y4, y5, y6, y7, hy, rfl, x1⟩)
        | (go_at_call 12; (with_reducible refine (rmake_any _ _ _ _ _ _ _ (hr'.ext (x1.alloc _)) hid hm).mono ?_); rintro e w2 ⟨z0, z1, z2, z3, z4, z5, z6, z7, hz, rfl, x2⟩; go_must (rw [hy] at hz); go_must (obtain ⟨rfl, rfl, rfl, rfl, rfl, rfl, rfl, rfl⟩ : y0 = z0 ∧ y1 = z1 ∧ y2 = z2 ∧ y3 = z3 ∧ y4 = z4 ∧ y5 = z5 ∧ y6 = z6 ∧ y7 = z7 := (by simpa using hz)))
        | (go_at_call 13; (with_reducible refine (shown_any _).mono ?_); rintro e w3 ⟨rfl, x3⟩; obtain ⟨f0, f1, f2, f3, f4, f5, f6, f7, f8, f9, fa⟩ := cells11 (blk_of ((x2.alloc _).trans x3)); obtain ⟨g0, g1, g2, g3, g4, g5, g6, g7, g8, g9, ga⟩ := cells11 (blk_of x3)))
      all_goals go_ret
      exact ⟨by simp, (x1.alloc _).trans ((x2.alloc _).trans x3)⟩
    · replace hm : (8 : Int) < m := by omega
      go_enter Try.func3, Try.ntmps3
      go_wp2_with (first
        | (go_at_call 11; (with_reducible refine (few_any _ _ _ _ hnc hc).mono ?_); rintro e w' ⟨rfl, rfl⟩; rw [HM.out])
        | (go_at_call 10; (with_reducible refine (make_no3 _ _ _ _ _ _ hid hm).mono ?_); rintro e w1 ⟨rfl, x1⟩)
        | (go_at_call 12; (with_reducible refine (rmake_no3 _ _ _ _ _ _ hid hm).mono ?_); rintro e w2 ⟨rfl, x2⟩)
        | (go_at_call 13; (with_reducible refine (shown_any _).mono ?_); rintro e w3 ⟨rfl, x3⟩; obtain ⟨f0, f1, f2, f3, f4, f5, f6, f7, f8, f9, fa⟩ := cells11 (blk_of ((x2.alloc _).trans x3)); obtain ⟨g0, g1, g2, g3, g4, g5, g6, g7, g8, g9, ga⟩ := cells11 (blk_of x3)))
      all_goals go_ret
      exact ⟨by simp, (x1.alloc _).trans ((x2.alloc _).trans x3)⟩
  · have hid' : idsI ext ≤ id := by omega
    have HID := Lib.hid hid; clear hid
    go_enter Try.func3, Try.ntmps3
    go_wp2_with (first
      | (go_at_call 11; (with_reducible refine (few_any _ _ _ _ hnc hc).mono ?_); rintro e w' ⟨rfl, rfl⟩; rw [HM.out])
      | (go_at_call 10; (with_reducible refine (make_no1 _ _ _ _ _ _ hid').mono ?_); rintro e w1 ⟨rfl, x1⟩)
      | (go_at_call 12; (with_reducible refine (rmake_no1 _ _ _ _ _ _ (Int.not_lt.2 HID.out)).mono ?_); rintro e w2 ⟨rfl, x2⟩)
      | (go_at_call 13; (with_reducible refine (shown_any _).mono ?_); rintro e w3 ⟨rfl, x3⟩; obtain ⟨f0, f1, f2, f3, f4, f5, f6, f7, f8, f9, fa⟩ := cells11 (blk_of ((x2.alloc _).trans x3)); obtain ⟨g0, g1, g2, g3, g4, g5, g6, g7, g8, g9, ga⟩ := cells11 (blk_of x3)))
    all_goals go_ret
    exact ⟨by simp, (x1.alloc _).trans ((x2.alloc _).trans x3)⟩
end Go.Proofs.Ytafdbhajngoafaa
