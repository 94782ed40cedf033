import Derived.Test.YtjcacemijnlmhaaD
set_option linter.unusedVariables false
namespace Go.Proofs.Ytjcacemijnlmhaa
open Go.RowKit
theorem take_0 (A : Option Addr) (c : Nat) (w : World) : Calls Try.prog 14 #[.slice A 0 c] w fun e w' => e = .returned (.tuple #[.agg #[.int .u8 0, .int .u8 0, .slice none 0 0], .int .i64 5]) ∧ Ext w w' := by
  go_enter Try.func14, Try.ntmps14
  go_wp2
  refine bodyPost_ret (results_row2 rfl rfl (blk_new rfl) Try.underlying24 rfl (by kernel_rfl)) rfl ⟨rfl, (Ext.refl _).alloc _⟩
theorem take_1 (A : Option Addr) (c : Nat) (bs : List Int) (x : Int) (w : World) (hr : Rd w A 1 bs) (HX : Hid (x = bs.getD 0 0)) (hx : x = 254 ∨ x = 253) : Calls Try.prog 14 #[.slice A 1 c] w fun e w' => e = .returned (.tuple #[.agg #[.int .u8 0, .int .u8 0, .slice none 0 0], .int .i64 5]) ∧ Ext w w' := by
  obtain ⟨bb, off, rfl, hbb, hc0⟩ := hr.cell (k := 0) (by omega)
  simp only [Nat.add_zero] at hc0
  rw [← HX.out] at hc0
  clear HX
  rcases hx with rfl | rfl
  · go_enter Try.func14, Try.ntmps14
    go_wp2
    refine bodyPost_ret (results_row2 rfl rfl (blk_new rfl) Try.underlying24 rfl (by kernel_rfl)) rfl ⟨rfl, (Ext.refl _).alloc _⟩
  · go_enter Try.func14, Try.ntmps14
    go_wp2
    refine bodyPost_ret (results_row2 rfl rfl (blk_new rfl) Try.underlying24 rfl (by kernel_rfl)) rfl ⟨rfl, (Ext.refl _).alloc _⟩
theorem take_X (A : Option Addr) (n c : Nat) (bs : List Int) (w : World) (hr : Rd w A n bs) (hn : n ≤ 20) (hnc : n ≤ c) (hpos : 0 < n) (x : Int) (HX : Hid (x = bs.getD 0 0)) (x0 : 0 ≤ x) (x1 : x < 256) (hx : 191 < x) (hx' : x < 253) : Calls Try.prog 14 #[.slice A n c] w fun e w' => e = .returned (.tuple #[.agg #[.int .u8 0, .int .u8 0, .slice none 0 0], .int .i64 1]) ∧ Ext w w' := by
  have hl := hr.len
  obtain ⟨bb, off, rfl, hbb, hc0⟩ := hr.cell hpos
  simp only [Nat.add_zero] at hc0
  have hn0 : (0 : Int) < n := by omega
  have hne : ((n : Int) == 0) = false := by simp; omega
  rw [← HX.out] at hc0
  clear HX
  have q1 : (x == 255) = false := by simp; omega
  have q2 : (x == 254) = false := by simp; omega
  have q3 : (x == 253) = false := by simp; omega
  by_cases h1 : n = 1
  · subst h1
    go_enter Try.func14, Try.ntmps14
    go_wp2
    refine bodyPost_ret (results_row2 rfl rfl (blk_new rfl) Try.underlying24 rfl (by kernel_rfl)) rfl ⟨rfl, (Ext.refl _).alloc _⟩
  · have hn1 : ((n : Int) == 1) = false := by simp; omega
    have H1 := Lib.hid h1; clear h1 hl
    go_enter Try.func14, Try.ntmps14
    go_wp2
    refine bodyPost_ret (results_row2 rfl rfl (blk_new rfl) Try.underlying24 rfl (by kernel_rfl)) rfl ⟨rfl, (Ext.refl _).alloc _⟩
theorem take_N (A : Option Addr) (n c : Nat) (bs : List Int) (w : World) (hr : Rd w A n bs) (hn : n ≤ 20) (hnc : n ≤ c) (hpos : 0 < n) (x : Int) (HX : Hid (x = bs.getD 0 0)) (x0 : 0 ≤ x) (x1 : x < 256) (hn2 : 2 ≤ n) (hx : x = 254) : Calls Try.prog 14 #[.slice A n c] w fun e w' => ∃ err kind code B A' m c', e = .returned (.tuple #[.agg #[.int .u8 kind, .int .u8 code, .slice A' m c'], .int .i64 err]) ∧ TK bs err kind code B ∧ Ext w w' ∧ Rd w' A' m B ∧ m ≤ c' ∧ c' ≤ maxLen := by
  have hl := hr.len
  obtain ⟨bb, off, rfl, hbb, hc0⟩ := hr.cell hpos
  obtain ⟨bb', off', hE, hbb', hc1⟩ := hr.cell (k := 1) (by omega)
  cases hE
  simp only [Nat.add_zero] at hc0
  have hn0 : (0 : Int) < n := by omega
  have hn1' : (1 : Int) < n := by omega
  have hne : ((n : Int) == 0) = false := by simp; omega
  have hn1 : ((n : Int) == 1) = false := by simp; omega
  have htk : Hid (TK bs 0 2 (bs.getD 1 0) []) := .inr (.inr (.inr (.inl ⟨by omega, by rw [← HX.out, hx], rfl, rfl, rfl, rfl⟩)))
  rw [← HX.out, hx] at hc0
  clear HX hl
  generalize bs.getD 1 0 = y at *
  go_enter Try.func14, Try.ntmps14
  go_wp2
  refine bodyPost_ret (results_row2 rfl rfl (blk_new rfl) Try.underlying24 rfl (by kernel_rfl)) rfl ⟨0, 2, _, _, _, 0, 0, rfl, htk.out, (Ext.refl _).alloc _, Rd.nil, by omega, le_max (by omega)⟩
end Go.Proofs.Ytjcacemijnlmhaa
