import Derived.Test.YtjcacemijnlmhaaV
set_option linter.unusedVariables false
namespace Go.Proofs.Ytjcacemijnlmhaa
open Go.RowKit
theorem keep6 {W1 W : World} {a b : Nat} {x0 x1 x2 y0 y1 y2 : Value} {t t' : TypeId} {fr fr' : Nat × Nat} (h : W1.heap[a]? = some (.cells #[x0, x1, x2] t fr)) (h' : W1.heap[b]? = some (.cells #[y0, y1, y2] t' fr')) (x : Ext W1 W) :
    W.cell? ⟨a, 0, none⟩ = some x0 ∧ W.cell? ⟨a, 1, none⟩ = some x1 ∧ W.cell? ⟨a, 2, none⟩ = some x2 ∧ W.cell? ⟨b, 0, none⟩ = some y0 ∧ W.cell? ⟨b, 1, none⟩ = some y1 ∧ W.cell? ⟨b, 2, none⟩ = some y2 ∧ Ext W1 W := by
  obtain ⟨f0, f1, f2⟩ := cells3 ((x.block _ (blk_lt h)).trans h)
  obtain ⟨g0, g1, g2⟩ := cells3 ((x.block _ (blk_lt h')).trans h')
  exact ⟨f0, f1, f2, g0, g1, g2, x⟩
theorem putR_len8 {kind code : Int} {m : Nat} {bs : List Int} (hm : mayR kind code m = true) (hl : bs.length = m) : 1 ≤ (putR kind code bs).length ∧ (putR kind code bs).length ≤ 8 := by
  simp only [putR, headR, List.length_append]
  simp [mayR] at hm
  split
  · simp; omega
  split
  · simp; omega
  split
  · simp; omega
  · simp; omega
theorem TK_put {kind code : Int} {m : Nat} {bs : List Int} (hm : mayR kind code m = true) (hl : bs.length = m) : TK (putR kind code bs) 0 kind code bs := by
  simp [mayR] at hm
  rcases kinds kind with rfl | rfl | rfl | rfl | ⟨k1, k2, k3, k4⟩
  · refine .inr (.inr (.inl ⟨by simp [putR, headR], by simp [putR, headR], rfl, rfl, by omega, ?_⟩))
    simp [putR, headR]
    rw [List.take_of_length_le (by omega)]
  · have : bs = [] := List.eq_nil_of_length_eq_zero (by omega)
    subst this
    exact .inr (.inr (.inr (.inl ⟨by simp [putR, headR], by simp [putR, headR], rfl, rfl, by simp [putR, headR], rfl⟩)))
  · refine .inr (.inr (.inr (.inr (.inl ⟨by simp [putR, headR], by simp [putR, headR], rfl, rfl, by simp [putR, headR], ?_⟩))))
    simp [putR, headR]
    rw [List.take_of_length_le (by omega)]
  · refine .inr (.inr (.inr (.inr (.inr (.inl ⟨by simp [putR, headR], by simp [putR, headR]; omega, rfl, rfl, by simp [putR, headR], ?_⟩)))))
    simp [putR, headR]
    rw [List.take_of_length_le (by omega)]
  · simp at k1 k2 k3 k4
    omega
theorem RepBack_law (w : World) (kind code : Int) (A : Option Addr) (n c : Nat) (bs : List Int) (k0 : 0 ≤ kind) (k1 : kind < 256) (c0 : 0 ≤ code) (c1 : code < 256) (hr : Rd w A n bs) (hnc : n ≤ c) (hcm : c ≤ maxLen) :
    Calls Try.prog 5 #[.agg #[.int .u8 kind, .int .u8 code, .slice A n c]] w fun e w' => e = .returned (.bool true) ∧ Ext w w' := by
  have hr' := hr.take (k := min n 20) (by omega)
  have hF := fun w => few_any kind code A n c w hnc hcm
  generalize hmm : min n 20 = m at *
  have HM := Lib.hid hmm; clear hmm
  have HF := Lib.hid hF; clear hF
  cases hm : mayR kind code m
  · go_enter Try.func5, Try.ntmps5
    go_wp2_with (first
      | (go_at_call 11; (with_reducible refine (shown_any _).mono ?_); rintro e w0 ⟨rfl, x0⟩; obtain ⟨f0, f1, f2⟩ := cells3 (blk_of x0))
      | (go_at_call 9; (with_reducible refine (HF.out _).mono ?_); rintro e wf ⟨rfl, xf⟩)
      | (go_at_call 8; (with_reducible refine (put_no _ _ _ _ _ _ hm).mono ?_); rintro e w1 ⟨rfl, x1⟩))
    all_goals go_ret
    all_goals exact ⟨by simp, ((Ext.refl _).alloc _).trans (x0.trans (xf.trans x1))⟩
  · obtain ⟨l1, l8⟩ := putR_len8 hm hr'.len
    have l1' : (1 : Int) ≤ ((putR kind code (bs.take m)).length : Int) := by omega
    have l8' : ((putR kind code (bs.take m)).length : Int) ≤ 8 := by omega
    have HT := Lib.hid (TK_put hm hr'.len)
    have hput := fun (W : World) (x : Ext w W) => put_yes kind code A m c (bs.take m) W (hr'.ext x) c0 c1 hm
    have HPUT := Lib.hid hput; clear hput
    have HL := Lib.hid l8
    clear l1 l8
    generalize putR kind code (bs.take m) = P at *
    go_enter Try.func5, Try.ntmps5
    go_wp2_with (first
      | (go_at_call 11; (with_reducible refine (shown_any _).mono ?_); rintro e w0 ⟨rfl, x0⟩; obtain ⟨f0, f1, f2⟩ := cells3 (blk_of x0); have y0 := ((Ext.refl _).alloc _).trans x0)
      | (go_at_call 9; (with_reducible refine (HF.out _).mono ?_); rintro e wf ⟨rfl, xf⟩)
      | (go_at_call 8; (with_reducible refine (HPUT.out _ (y0.trans xf)).mono ?_); rintro e w1 ⟨A1, cc1, rfl, lc1, _, x1, r1⟩; have xf1 := xf.trans x1; have y1 := y0.trans xf1; obtain ⟨f0, f1, f2⟩ := cells3 (blk_of (x0.trans xf1)))
      | (go_at_call 14; (with_reducible refine (take_c _ _ _ _ _ r1 (Nat.le_trans HL.out (by omega)) lc1).mono ?_); rintro e w2 ⟨er, k, cd, B, A2, m2, c2, rfl, tk, x2, r2, _, _⟩; obtain ⟨rfl, rfl, rfl, rfl⟩ := TK.det HT.out tk; have y2 := y1.trans x2; obtain ⟨f0, f1, f2⟩ := cells3 (blk_of (x0.trans (xf1.trans x2)))))
    obtain ⟨W1, hW1⟩ : ∃ W1, W1 = w2.alloc (.cells #[.int .u8 kind, .int .u8 code, .slice A2 m2 c2] 24) := ⟨_, rfl⟩
    rw [← hW1]
    have v1 : Ext w2 W1 := by rw [hW1]; exact (Ext.refl _).alloc _
    have K2 : W1.heap[w2.heap.size]? = some (.cells #[.int .u8 kind, .int .u8 code, .slice A2 m2 c2] 24 (0, 0)) := by rw [hW1]; exact heap_alloc_new _ _
    have K1 := blk_of (x0.trans (xf1.trans (x2.trans v1)))
    have u1 : Ext w W1 := y2.trans v1
    clear hW1
    go_region_held3 (fun W => W.cell? ⟨w.heap.size, 0, none⟩ = some (.int .u8 kind) ∧ W.cell? ⟨w.heap.size, 1, none⟩ = some (.int .u8 code) ∧ W.cell? ⟨w.heap.size, 2, none⟩ = some (.slice A n c) ∧ W.cell? ⟨w2.heap.size, 0, none⟩ = some (.int .u8 kind) ∧ W.cell? ⟨w2.heap.size, 1, none⟩ = some (.int .u8 code) ∧ W.cell? ⟨w2.heap.size, 2, none⟩ = some (.slice A2 m2 c2) ∧ Ext W1 W) ((refine keep6 K1 K2 ?_; repeat' (first | assumption | with_reducible exact Ext.refl _ | with_reducible refine Ext.drew ?_ | with_reducible refine Ext.alloc ?_ _ | with_reducible refine Ext.setCell ?_ (by simp) _))) (first
      | (go_at_call 9; (with_reducible refine (HF.out _).mono ?_); rintro e w3 ⟨rfl, x3⟩; have z3 := (Ext.refl _).drew.trans x3)
      | (go_at_call 16; (with_reducible refine (same_self _ _ _ _ _ _ _ _ _ _ (r2.ext (v1.trans z3)) (hr'.ext (u1.trans z3))).mono ?_); rintro e w4 ⟨rfl, x4⟩; have z4 := z3.trans x4))
    go_wp2
    go_ret
    exact ⟨rfl, u1.trans z4⟩
end Go.Proofs.Ytjcacemijnlmhaa
