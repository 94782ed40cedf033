import Derived.Test.YtjgmnbfadnlikaaA
set_option linter.unusedVariables false
set_option linter.unusedSimpArgs false
namespace Go.Proofs.Ytjgmnbfadnlikaa
open Go.RowKit
def isWho (who : Int) : Prop := who = 1 ∨ who = 2
theorem place_1 (w : World) : Calls Try.prog 33 #[.int .u8 1] w fun e w' => e = .returned (.tuple #[.int .i64 0, .bool true]) ∧ w = w' := by
  go_enter Try.func33, Try.ntmps33
  go_wp2
  go_ret2
  exact ⟨rfl, rfl⟩
theorem place_2 (w : World) : Calls Try.prog 33 #[.int .u8 2] w fun e w' => e = .returned (.tuple #[.int .i64 1, .bool true]) ∧ w = w' := by
  go_enter Try.func33, Try.ntmps33
  go_wp2
  go_ret2
  exact ⟨rfl, rfl⟩
theorem place_0 (who : Int) (h1 : who ≠ 1) (h2 : who ≠ 2) (w : World) : Calls Try.prog 33 #[.int .u8 who] w fun e w' => e = .returned (.tuple #[.int .i64 0, .bool false]) ∧ w = w' := by
  have b1 : (who == 1) = false := by simpa using h1
  have b2 : (who == 2) = false := by simpa using h2
  go_enter Try.func33, Try.ntmps33
  go_wp2
  go_ret2
  exact ⟨rfl, rfl⟩
theorem wr8 {i : Nat} (h : i < 256) : IntKind.u8.wrap (i : Int) = i := by simp [IntKind.wrap, IntKind.bits, IntKind.signed]; omega
theorem find_arg0 {w : World} {g : Nat} (who : Int) (area at_ : Nat) (n : Int) (h1 : who ≠ 1) (h2 : who ≠ 2) :
    Calls Try.prog 32 #[.pointer (some ⟨g, 0, none⟩), .int .u8 who, .int .u8 (area : Int), .int .u32 (at_ : Int), .int .i64 n] w fun e w' => e = .returned (.tuple #[.slice none 0 0, .bool false, .int .i64 1]) ∧ w = w' := by
  go_enter Try.func32, Try.ntmps32
  go_wp2_with (go_at_call 33; (refine (place_0 who h1 h2 _).mono ?_); rintro e w1 ⟨rfl, rfl⟩)
  go_ret3
  exact ⟨rfl, rfl⟩
theorem find_arg1 {w : World} {g : Nat} (who : Int) (area at_ : Nat) (n : Int) (hw : who = 1 ∨ who = 2) (h2 : n < 0) :
    Calls Try.prog 32 #[.pointer (some ⟨g, 0, none⟩), .int .u8 who, .int .u8 (area : Int), .int .u32 (at_ : Int), .int .i64 n] w fun e w' => e = .returned (.tuple #[.slice none 0 0, .bool false, .int .i64 1]) ∧ w = w' := by
  rcases hw with rfl | rfl
  · go_enter Try.func32, Try.ntmps32
    go_wp2_with (go_at_call 33; (refine (place_1 _).mono ?_); rintro e w1 ⟨rfl, rfl⟩)
    go_ret3
    exact ⟨rfl, rfl⟩
  · go_enter Try.func32, Try.ntmps32
    go_wp2_with (go_at_call 33; (refine (place_2 _).mono ?_); rintro e w1 ⟨rfl, rfl⟩)
    go_ret3
    exact ⟨rfl, rfl⟩
theorem find_area {w : World} {g : Nat} {s : MS} {va : Tg → Value} {T : Nat → Option Tg} (h : MemC w g s va T) (who : Int) (area at_ : Nat) (n : Int) (hw : who = 1 ∨ who = 2) (h2 : ¬ n < 0) (h3 : s.segs.length < area) (h4 : area < 256) :
    Calls Try.prog 32 #[.pointer (some ⟨g, 0, none⟩), .int .u8 who, .int .u8 (area : Int), .int .u32 (at_ : Int), .int .i64 n] w fun e w' => e = .returned (.tuple #[.slice none 0 0, .bool false, .int .i64 80]) ∧ w = w' := by
  obtain ⟨k0, k1⟩ := cells2 h.row
  obtain ⟨sA, sc, hs, _, _⟩ := own_form h.seg
  rw [hs] at k1
  clear hs
  rcases hw with rfl | rfl
  · go_enter Try.func32, Try.ntmps32
    go_wp2_with (go_at_call 33; (refine (place_1 _).mono ?_); rintro e w1 ⟨rfl, rfl⟩)
    go_ret3
    exact ⟨rfl, rfl⟩
  · go_enter Try.func32, Try.ntmps32
    go_wp2_with (go_at_call 33; (refine (place_2 _).mono ?_); rintro e w1 ⟨rfl, rfl⟩)
    go_ret3
    exact ⟨rfl, rfl⟩
end Go.Proofs.Ytjgmnbfadnlikaa
