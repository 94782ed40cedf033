import Derived.Test.YtjgmnbfadnlikaaCB
set_option linter.unusedVariables false
set_option linter.unusedSimpArgs false
namespace Go.Proofs.Ytjgmnbfadnlikaa
open Go.RowKit
theorem find_nil (who area : Int) (at_ n : Int) (w : World) : Calls Try.prog 32 #[.pointer none, .int .u8 who, .int .u8 area, .int .u32 at_, .int .i64 n] w fun e w' => e = .returned (.tuple #[.slice none 0 0, .bool false, .int .i64 2]) ∧ w = w' := by
  go_enter Try.func32, Try.ntmps32
  go_wp2
  go_ret3
  exact ⟨rfl, rfl⟩
theorem read_nil (who area : Int) (at_ n : Int) (w : World) : Calls Try.prog 23 #[.pointer none, .int .u8 who, .int .u8 area, .int .u32 at_, .int .i64 n] w fun e w' => e = .returned (.tuple #[.slice none 0 0, .int .i64 2]) ∧ w = w' := by
  go_enter Try.func23, Try.ntmps23
  go_wp2_with (go_at_call 32; (refine (find_nil who area at_ n _).mono ?_); rintro e w1 ⟨rfl, rfl⟩)
  go_ret2
  exact ⟨rfl, rfl⟩
theorem write_nil (who area : Int) (at_ : Int) (A : Option Addr) (n c : Nat) (w : World) : Calls Try.prog 22 #[.pointer none, .int .u8 who, .int .u8 area, .int .u32 at_, .slice A n c] w fun e w' => e = .returned (.int .i64 2) ∧ w = w' := by
  go_enter Try.func22, Try.ntmps22
  go_wp2_with (go_at_call 32; (refine (find_nil who area at_ n _).mono ?_); rintro e w1 ⟨rfl, rfl⟩)
  go_ret
  exact ⟨rfl, rfl⟩
theorem page_nil (who seg : Int) (w : World) : Calls Try.prog 24 #[.pointer none, .int .u8 who, .int .i64 seg] w fun e w' => e = .returned (.tuple #[.int .i64 0, .int .i64 2]) ∧ w = w' := by
  go_enter Try.func24, Try.ntmps24
  go_wp2
  go_ret2
  exact ⟨rfl, rfl⟩
theorem set_nil (who seg page : Int) (w : World) : Calls Try.prog 25 #[.pointer none, .int .u8 who, .int .i64 seg, .int .i64 page] w fun e w' => e = .returned (.int .i64 2) ∧ w = w' := by
  go_enter Try.func25, Try.ntmps25
  go_wp2
  go_ret
  exact ⟨rfl, rfl⟩
theorem copy_nil (seg a b : Int) (w : World) : Calls Try.prog 26 #[.pointer none, .int .i64 seg, .int .i64 a, .int .i64 b] w fun e w' => e = .returned (.int .i64 2) ∧ w = w' := by
  go_enter Try.func26, Try.ntmps26
  go_wp2
  go_ret
  exact ⟨rfl, rfl⟩
theorem clone_nil (w : World) : Calls Try.prog 21 #[.pointer none] w fun e w' => e = .returned (.pointer none) ∧ w = w' := by
  go_enter Try.func21, Try.ntmps21
  go_wp2
  go_ret
  exact ⟨rfl, rfl⟩
end Go.Proofs.Ytjgmnbfadnlikaa
