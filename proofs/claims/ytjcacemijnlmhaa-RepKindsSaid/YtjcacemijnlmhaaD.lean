import Derived.Test.YtjcacemijnlmhaaC
set_option linter.unusedVariables false
namespace Go.Proofs.Ytjcacemijnlmhaa
open Go.RowKit
theorem take_D (A : Option Addr) (n c : Nat) (bs : List Int) (w : World) (hr : Rd w A n bs) (hn : n ≤ 20) (hnc : n ≤ c) (hpos : 0 < n) (x : Int) (HX : Hid (x = bs.getD 0 0)) (x0 : 0 ≤ x) (x1 : x < 256) (hx : x ≤ 191) : Calls Try.prog 14 #[.slice A n c] w fun e w' => ∃ err kind code B A' m c', e = .returned (.tuple #[.agg #[.int .u8 kind, .int .u8 code, .slice A' m c'], .int .i64 err]) ∧ TK bs err kind code B ∧ Ext w w' ∧ Rd w' A' m B ∧ m ≤ c' ∧ c' ≤ maxLen := by
  have hl := hr.len
  obtain ⟨bb, off, rfl, hbb, hc0⟩ := hr.cell hpos
  simp only [Nat.add_zero] at hc0
  have hn0 : (0 : Int) < n := by omega
  have hne : ((n : Int) == 0) = false := by simp; omega
  have htk : Hid (TK bs 0 4 x ((bs.drop 1).take 7)) := .inr (.inr (.inr (.inr (.inr (.inl ⟨by omega, by rw [← HX.out]; exact hx, rfl, rfl, HX.out, rfl⟩)))))
  rw [← HX.out] at hc0
  clear HX
  have q1 : (x == 255) = false := by simp; omega
  have q2 : (x == 254) = false := by simp; omega
  have q3 : (x == 253) = false := by simp; omega
  by_cases h1 : n = 1
  · have e0 : bs.drop 1 = [] := List.drop_eq_nil_of_le (by omega)
    rw [e0] at htk
    clear e0 hl
    subst h1
    by_cases hcap : c = 1
    · subst hcap
      go_enter Try.func14, Try.ntmps14
      go_wp2_with (first
        | (go_at_call 18; (with_reducible refine (upTo_any _ _ _ _ 7 _ (Rd.nil) (by omega) (by omega) (by omega) (by omega)).mono ?_); rintro e w1 ⟨A', c', rfl, l1, l2, x1, r1, f1⟩; have hz := blk_of x1)
        | (refine wpList_strow rfl 24 (.tmp 2) (.tmp 60) rfl hz rfl rfl (by kernel_rfl) rfl all3 ?_; intro w2 hg2 hw2))
      refine bodyPost_ret (results_row2 rfl rfl hg2.out Try.underlying24 rfl (by kernel_rfl)) rfl ⟨0, 4, x, _, A', _, c', rfl, htk.out, (((Ext.refl _).alloc _).trans x1).of_grown hw2 (fun k hk => by simp at hk; omega), r1.grown hw2 (fun ad e h => by have := f1 ad e; simp at h this; omega), l1, l2⟩
    · go_enter Try.func14, Try.ntmps14
      go_wp2_with (first
        | (go_at_call 18; (with_reducible refine (upTo_any _ _ _ _ 7 _ (Rd.nil) (by omega) (by omega) (by omega) (by omega)).mono ?_); rintro e w1 ⟨A', c', rfl, l1, l2, x1, r1, f1⟩; have hz := blk_of x1)
        | (refine wpList_strow rfl 24 (.tmp 2) (.tmp 60) rfl hz rfl rfl (by kernel_rfl) rfl all3 ?_; intro w2 hg2 hw2))
      refine bodyPost_ret (results_row2 rfl rfl hg2.out Try.underlying24 rfl (by kernel_rfl)) rfl ⟨0, 4, x, _, A', _, c', rfl, htk.out, (((Ext.refl _).alloc _).trans x1).of_grown hw2 (fun k hk => by simp at hk; omega), r1.grown hw2 (fun ad e h => by have := f1 ad e; simp at h this; omega), l1, l2⟩
  · have hn1 : ((n : Int) == 1) = false := by simp; omega
    have hc1 : ¬ c = 1 := by omega
    have hd := hr.drop' (k := 1) (by omega) (by omega)
    have H1 := Lib.hid h1; clear h1 hl
    go_enter Try.func14, Try.ntmps14
    go_wp2_with (first
      | (go_at_call 18; (with_reducible refine (upTo_any _ _ _ _ 7 _ (hd.ext ((Ext.refl _).alloc _)) (by omega) (by omega) (by omega) (by omega)).mono ?_); rintro e w1 ⟨A', c', rfl, l1, l2, x1, r1, f1⟩; have hz := blk_of x1)
      | (refine wpList_strow rfl 24 (.tmp 2) (.tmp 60) rfl hz rfl rfl (by kernel_rfl) rfl all3 ?_; intro w2 hg2 hw2))
    refine bodyPost_ret (results_row2 rfl rfl hg2.out Try.underlying24 rfl (by kernel_rfl)) rfl ⟨0, 4, x, _, A', _, c', rfl, htk.out, (((Ext.refl _).alloc _).trans x1).of_grown hw2 (fun k hk => by simp at hk; omega), r1.grown hw2 (fun ad e h => by have := f1 ad e; simp at h this; omega), l1, l2⟩
end Go.Proofs.Ytjcacemijnlmhaa
