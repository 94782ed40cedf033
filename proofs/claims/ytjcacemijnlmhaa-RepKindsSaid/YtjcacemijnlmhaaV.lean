import Derived.Test.YtjcacemijnlmhaaO
set_option linter.unusedVariables false
namespace Go.Proofs.Ytjcacemijnlmhaa
open Go.RowKit
theorem beq_self_bytes (x : ByteArray) : (x == x) = true := by rw [beq_toListBytes]; simp
theorem same_self (k c : Int) (A : Option Addr) (n a : Nat) (bs : List Int) (A' : Option Addr) (n' a' : Nat) (w : World) (hr : Rd w A n bs) (hr' : Rd w A' n' bs) :
    Calls Try.prog 16 #[.agg #[.int .u8 k, .int .u8 c, .slice A n a], .agg #[.int .u8 k, .int .u8 c, .slice A' n' a']] w fun e w' => e = .returned (.bool true) ∧ Ext w w' :=
  (same_any k c A n a bs k c A' n' a' bs w hr hr').mono fun e w' h => ⟨by rw [h.1]; simp [beq_self_bytes], h.2⟩
theorem take_c (A : Option Addr) (n c : Nat) (bs : List Int) (w : World) (hr : Rd w A n bs) (hn : n ≤ 20) (hnc : n ≤ c) : Calls Try.prog 14 #[.slice A n c] w fun e w' => ∃ err kind code B A' m c', e = .returned (.tuple #[.agg #[.int .u8 kind, .int .u8 code, .slice A' m c'], .int .i64 err]) ∧ TK bs err kind code B ∧ Ext w w' ∧ Rd w' A' m B ∧ m ≤ c' ∧ c' ≤ maxLen := take_any A n c bs w hr hn hnc
theorem rtake_c (A : Option Addr) (n c : Nat) (bs : List Int) (w : World) (hr : Rd w A n bs) (hn : n ≤ 20) (hnc : n ≤ c) : Calls Try.prog 15 #[.slice A n c] w fun e w' => ∃ err kind code B A' m c', e = .returned (.tuple #[.agg #[.int .u8 kind, .int .u8 code, .slice A' m c'], .int .i64 err]) ∧ TK bs err kind code B ∧ Ext w w' ∧ Rd w' A' m B ∧ m ≤ c' ∧ c' ≤ maxLen := rtake_any A n c bs w hr hn hnc
theorem RepTakes_law (w : World) (A : Option Addr) (n c : Nat) (bs : List Int) (hr : Rd w A n bs) (hnc : n ≤ c) (hcm : c ≤ maxLen) :
    Calls Try.prog 4 #[.slice A n c] w fun e w' => e = .returned (.bool true) ∧ Ext w w' := by
  by_cases h20 : (20 : Int) < n
  · have hr' := hr.take (k := 20) (by omega)
    have h20c : (20 : Int) ≤ c := by omega
    have h20d : 20 ≤ c := by omega
    have hit : (if (20 : Int) < n then (20 : Int) else n) = 20 := if_pos h20
    go_enter Try.func4, Try.ntmps4
    go_wp2_with (first
      | (go_at_call 14; (with_reducible refine (take_c _ 20 c _ _ hr' (by omega) h20d).mono ?_); rintro e w1 ⟨er, k, cd, B, A1, m1, c1, rfl, tk, x1, r1, _, _⟩)
      | (go_at_call 15; (with_reducible refine (rtake_c _ 20 c _ _ (hr'.ext (x1.alloc _)) (by omega) h20d).mono ?_); rintro e w2 ⟨er2, k2, cd2, B2, A2, m2, c2, rfl, tk2, x2, r2, _, _⟩; obtain ⟨rfl, rfl, rfl, rfl⟩ := TK.det tk tk2; clear tk tk2)
      | (go_at_call 11; (with_reducible refine (shown_any _).mono ?_); rintro e w3 ⟨rfl, x3⟩; have y2 := (x2.alloc _).trans x3; have y3 := ((Ext.refl _).alloc _).trans x3; obtain ⟨f0, f1, f2⟩ := cells3 (blk_of y2); obtain ⟨g0, g1, g2⟩ := cells3 (blk_of x3))
      | (go_at_call 16; (with_reducible refine (same_self _ _ _ _ _ _ _ _ _ _ (r1.ext (((Ext.refl _).alloc _).trans y2)) (r2.ext y3)).mono ?_); rintro e w4 ⟨rfl, x4⟩))
    all_goals go_ret
    all_goals exact ⟨by simp, ((x1.alloc _).trans y2).trans x4⟩
  · have hr' := hr.take (k := n) (by omega)
    have h20d : n ≤ c := by omega
    have h20c : (n : Int) ≤ c := by omega
    have hit : (if (20 : Int) < n then (20 : Int) else n) = n := if_neg h20
    go_enter Try.func4, Try.ntmps4
    go_wp2_with (first
      | (go_at_call 14; (with_reducible refine (take_c _ n c _ _ hr' (by omega) h20d).mono ?_); rintro e w1 ⟨er, k, cd, B, A1, m1, c1, rfl, tk, x1, r1, _, _⟩)
      | (go_at_call 15; (with_reducible refine (rtake_c _ n c _ _ (hr'.ext (x1.alloc _)) (by omega) h20d).mono ?_); rintro e w2 ⟨er2, k2, cd2, B2, A2, m2, c2, rfl, tk2, x2, r2, _, _⟩; obtain ⟨rfl, rfl, rfl, rfl⟩ := TK.det tk tk2; clear tk tk2)
      | (go_at_call 11; (with_reducible refine (shown_any _).mono ?_); rintro e w3 ⟨rfl, x3⟩; have y2 := (x2.alloc _).trans x3; have y3 := ((Ext.refl _).alloc _).trans x3; obtain ⟨f0, f1, f2⟩ := cells3 (blk_of y2); obtain ⟨g0, g1, g2⟩ := cells3 (blk_of x3))
      | (go_at_call 16; (with_reducible refine (same_self _ _ _ _ _ _ _ _ _ _ (r1.ext (((Ext.refl _).alloc _).trans y2)) (r2.ext y3)).mono ?_); rintro e w4 ⟨rfl, x4⟩))
    all_goals go_ret
    all_goals exact ⟨by simp, ((x1.alloc _).trans y2).trans x4⟩
end Go.Proofs.Ytjcacemijnlmhaa
