import Derived.Test.YtjcacemijnlmhaaE
import Derived.Deep.RegionHeld3
set_option linter.unusedVariables false
namespace Go.Proofs.Ytjcacemijnlmhaa
open Go.RowKit
theorem grown_setCell (w : World) (a : Addr) (u : Value) : w.grownBy (w.setCell a u) (some a.block) :=
  ⟨rfl, rfl, rfl, by simp, fun k _ hk => Below.heap_setCell _ _ _ _ (fun e => hk (by rw [e]))⟩
theorem Rd.cellOther {w : World} {A : Option Addr} {n : Nat} {bs : List Int} (h : Rd w A n bs) {p : Addr} (u : Value) (hp : ∀ ad, A = some ad → ad.block ≠ p.block) : Rd (w.setCell p u) A n bs :=
  h.grown (grown_setCell w p u) (fun ad e => fun k => hp ad e (by simpa using k))
theorem Ext.cel {a w : World} (h : Ext a w) {p : Addr} {v : Value} (hp : p.block < a.heap.size) (hc : a.cell? p = some v) : w.cell? p = some v := (h.cell hp).trans hc
set_option maxHeartbeats 2000000 in
theorem take_E (A : Option Addr) (n c : Nat) (bs : List Int) (w : World) (hr : Rd w A n bs) (hn : n ≤ 20) (hnc : n ≤ c) (hpos : 0 < n) (x : Int) (HX : Hid (x = bs.getD 0 0)) (x0 : 0 ≤ x) (x1 : x < 256) (hn2 : 2 ≤ n) (hx : x = 253) : Calls Try.prog 14 #[.slice A n c] w fun e w' => ∃ err kind code B A' m c', e = .returned (.tuple #[.agg #[.int .u8 kind, .int .u8 code, .slice A' m c'], .int .i64 err]) ∧ TK bs err kind code B ∧ Ext w w' ∧ Rd w' A' m B ∧ m ≤ c' ∧ c' ≤ maxLen := by
  have hl := hr.len
  obtain ⟨bb, off, rfl, hbb, hc0⟩ := hr.cell hpos
  obtain ⟨bb', off', hE, hbb', hc1⟩ := hr.cell (k := 1) (by omega)
  cases hE
  simp only [Nat.add_zero] at hc0
  have hn0 : (0 : Int) < n := by omega
  have hn1' : (1 : Int) < n := by omega
  have hne : ((n : Int) == 0) = false := by simp; omega
  have hn1 : ((n : Int) == 1) = false := by simp; omega
  have htk : Hid (TK bs 0 3 (bs.getD 1 0) ((bs.drop 2).take 6)) := .inr (.inr (.inr (.inr (.inl ⟨by omega, by rw [← HX.out, hx], rfl, rfl, rfl, rfl⟩))))
  rw [← HX.out, hx] at hc0
  have e0 : n = 2 → bs.drop 2 = [] := fun h => List.drop_eq_nil_of_le (by omega)
  have E0 := Lib.hid e0
  clear HX hl e0
  have hd := fun h => hr.drop' (k := 2) h (by omega)
  generalize bs.getD 1 0 = y at *
  by_cases h2 : n = 2
  · rw [E0.out h2] at htk
    subst h2
    by_cases hcap : c = 2
    · subst hcap
      obtain ⟨W1, hW1⟩ : ∃ W1, W1 = w.alloc (.cells #[.int .u8 0, .int .u8 0, .slice none 0 0] 24) := ⟨_, rfl⟩
      have xW : Ext w W1 := by rw [hW1]; exact (Ext.refl _).alloc _
      have hrow : W1.heap[w.heap.size]? = some (.cells #[.int .u8 0, .int .u8 0, .slice none 0 0] 24 (0, 0)) := by rw [hW1]; exact heap_alloc_new _ _
      have HW := Lib.hid hW1; clear hW1
      have hcW : W1.cell? ⟨bb, off + 1, none⟩ = some (.int .u8 y) := xW.cel hbb' hc1
      have HD := fun W (x : Ext w W) => (Rd.nil (A := some ⟨bb, off, none⟩) (w := W))
      go_enter Try.func14, Try.ntmps14
      go_wp2
      rw [← HW.out]
      go_region_held3 (fun W => W.cell? ⟨bb, off + 1, none⟩ = some (.int .u8 y) ∧ Ext w W) (first | exact ⟨hcW, (xW.trans (Ext.refl _).drew)⟩ | exact ⟨(xW.trans ((Ext.refl _).drew.trans x1)).cel hbb' hc1, xW.trans ((Ext.refl _).drew.trans x1)⟩ | exact ⟨((((xW.trans ((Ext.refl _).drew.trans x1)).setCell (by simp) _).setCell (by simp) _).setCell (by simp) _).cel hbb' hc1, ((((xW.trans ((Ext.refl _).drew.trans x1)).setCell (by simp) _).setCell (by simp) _).setCell (by simp) _)⟩) (first | (go_at_call 18; (with_reducible refine (upTo_any _ _ _ _ 6 _ (HD _ (xW.trans (Ext.refl _).drew)) (by omega) (by omega) (by omega) (by omega)).mono ?_); rintro e w1 ⟨A', c', rfl, l1, l2, x1, r1, f1⟩; have hz1 := (x1.block _ (blk_lt hrow)).trans hrow; obtain ⟨j0, j1, j2⟩ := cells3 hz1; have jf := fun i => blk_free (i := i) hz1))
      go_wp2
      have hfin : (((w1.setCell ⟨w.heap.size, 0, none⟩ (.int .u8 3)).setCell ⟨w.heap.size, 1, none⟩ (.int .u8 y)).setCell ⟨w.heap.size, 2, none⟩ (.slice A' (min 0 (Int.toNat 6)) c')).heap[w.heap.size]? = some (.cells #[.int .u8 3, .int .u8 y, .slice A' (min 0 (Int.toNat 6)) c'] 24 (0, 0)) := blk_set (blk_set (blk_set hz1))
      have hlt := blk_lt hrow
      have hot : ∀ ad, A' = some ad → ad.block ≠ w.heap.size := fun ad e => Nat.ne_of_gt (Nat.lt_of_lt_of_le hlt (f1 ad e))
      refine bodyPost_ret (results_row2 rfl rfl hfin Try.underlying24 rfl (by kernel_rfl)) rfl ⟨0, 3, y, _, A', _, c', rfl, htk.out, ((((xW.trans ((Ext.refl _).drew.trans x1)).setCell (by simp) _).setCell (by simp) _).setCell (by simp) _), ((r1.cellOther _ hot).cellOther _ hot).cellOther _ hot, l1, l2⟩
    · obtain ⟨W1, hW1⟩ : ∃ W1, W1 = w.alloc (.cells #[.int .u8 0, .int .u8 0, .slice none 0 0] 24) := ⟨_, rfl⟩
      have xW : Ext w W1 := by rw [hW1]; exact (Ext.refl _).alloc _
      have hrow : W1.heap[w.heap.size]? = some (.cells #[.int .u8 0, .int .u8 0, .slice none 0 0] 24 (0, 0)) := by rw [hW1]; exact heap_alloc_new _ _
      have HW := Lib.hid hW1; clear hW1
      have hcW : W1.cell? ⟨bb, off + 1, none⟩ = some (.int .u8 y) := xW.cel hbb' hc1
      have HD := fun W (x : Ext w W) => (Rd.nil (A := some ⟨bb, off + 2, none⟩) (w := W))
      go_enter Try.func14, Try.ntmps14
      go_wp2
      rw [← HW.out]
      go_region_held3 (fun W => W.cell? ⟨bb, off + 1, none⟩ = some (.int .u8 y) ∧ Ext w W) (first | exact ⟨hcW, (xW.trans (Ext.refl _).drew)⟩ | exact ⟨(xW.trans ((Ext.refl _).drew.trans x1)).cel hbb' hc1, xW.trans ((Ext.refl _).drew.trans x1)⟩ | exact ⟨((((xW.trans ((Ext.refl _).drew.trans x1)).setCell (by simp) _).setCell (by simp) _).setCell (by simp) _).cel hbb' hc1, ((((xW.trans ((Ext.refl _).drew.trans x1)).setCell (by simp) _).setCell (by simp) _).setCell (by simp) _)⟩) (first | (go_at_call 18; (with_reducible refine (upTo_any _ _ _ _ 6 _ (HD _ (xW.trans (Ext.refl _).drew)) (by omega) (by omega) (by omega) (by omega)).mono ?_); rintro e w1 ⟨A', c', rfl, l1, l2, x1, r1, f1⟩; have hz1 := (x1.block _ (blk_lt hrow)).trans hrow; obtain ⟨j0, j1, j2⟩ := cells3 hz1; have jf := fun i => blk_free (i := i) hz1))
      go_wp2
      have hfin : (((w1.setCell ⟨w.heap.size, 0, none⟩ (.int .u8 3)).setCell ⟨w.heap.size, 1, none⟩ (.int .u8 y)).setCell ⟨w.heap.size, 2, none⟩ (.slice A' (min 0 (Int.toNat 6)) c')).heap[w.heap.size]? = some (.cells #[.int .u8 3, .int .u8 y, .slice A' (min 0 (Int.toNat 6)) c'] 24 (0, 0)) := blk_set (blk_set (blk_set hz1))
      have hlt := blk_lt hrow
      have hot : ∀ ad, A' = some ad → ad.block ≠ w.heap.size := fun ad e => Nat.ne_of_gt (Nat.lt_of_lt_of_le hlt (f1 ad e))
      refine bodyPost_ret (results_row2 rfl rfl hfin Try.underlying24 rfl (by kernel_rfl)) rfl ⟨0, 3, y, _, A', _, c', rfl, htk.out, ((((xW.trans ((Ext.refl _).drew.trans x1)).setCell (by simp) _).setCell (by simp) _).setCell (by simp) _), ((r1.cellOther _ hot).cellOther _ hot).cellOther _ hot, l1, l2⟩
  · have hc2 : ¬ c = 2 := by omega
    have hn2' : (2 : Int) ≤ n := by omega
    have hnc' : (n : Int) ≤ c := by omega
    have hd' := hd (by omega)
    have H2 := Lib.hid h2; clear h2
    obtain ⟨W1, hW1⟩ : ∃ W1, W1 = w.alloc (.cells #[.int .u8 0, .int .u8 0, .slice none 0 0] 24) := ⟨_, rfl⟩
    have xW : Ext w W1 := by rw [hW1]; exact (Ext.refl _).alloc _
    have hrow : W1.heap[w.heap.size]? = some (.cells #[.int .u8 0, .int .u8 0, .slice none 0 0] 24 (0, 0)) := by rw [hW1]; exact heap_alloc_new _ _
    have HW := Lib.hid hW1; clear hW1
    have hcW : W1.cell? ⟨bb, off + 1, none⟩ = some (.int .u8 y) := xW.cel hbb' hc1
    have HD := fun W (x : Ext w W) => (hd'.ext x)
    go_enter Try.func14, Try.ntmps14
    go_wp2
    rw [← HW.out]
    go_region_held3 (fun W => W.cell? ⟨bb, off + 1, none⟩ = some (.int .u8 y) ∧ Ext w W) (first | exact ⟨hcW, (xW.trans (Ext.refl _).drew)⟩ | exact ⟨(xW.trans ((Ext.refl _).drew.trans x1)).cel hbb' hc1, xW.trans ((Ext.refl _).drew.trans x1)⟩ | exact ⟨((((xW.trans ((Ext.refl _).drew.trans x1)).setCell (by simp) _).setCell (by simp) _).setCell (by simp) _).cel hbb' hc1, ((((xW.trans ((Ext.refl _).drew.trans x1)).setCell (by simp) _).setCell (by simp) _).setCell (by simp) _)⟩) (first | (go_at_call 18; (with_reducible refine (upTo_any _ _ _ _ 6 _ (HD _ (xW.trans (Ext.refl _).drew)) (by omega) (by omega) (by omega) (by omega)).mono ?_); rintro e w1 ⟨A', c', rfl, l1, l2, x1, r1, f1⟩; have hz1 := (x1.block _ (blk_lt hrow)).trans hrow; obtain ⟨j0, j1, j2⟩ := cells3 hz1; have jf := fun i => blk_free (i := i) hz1))
    go_wp2
    have hfin : (((w1.setCell ⟨w.heap.size, 0, none⟩ (.int .u8 3)).setCell ⟨w.heap.size, 1, none⟩ (.int .u8 y)).setCell ⟨w.heap.size, 2, none⟩ (.slice A' (min (n - 2) (Int.toNat 6)) c')).heap[w.heap.size]? = some (.cells #[.int .u8 3, .int .u8 y, .slice A' (min (n - 2) (Int.toNat 6)) c'] 24 (0, 0)) := blk_set (blk_set (blk_set hz1))
    have hlt := blk_lt hrow
    have hot : ∀ ad, A' = some ad → ad.block ≠ w.heap.size := fun ad e => Nat.ne_of_gt (Nat.lt_of_lt_of_le hlt (f1 ad e))
    refine bodyPost_ret (results_row2 rfl rfl hfin Try.underlying24 rfl (by kernel_rfl)) rfl ⟨0, 3, y, _, A', _, c', rfl, htk.out, ((((xW.trans ((Ext.refl _).drew.trans x1)).setCell (by simp) _).setCell (by simp) _).setCell (by simp) _), ((r1.cellOther _ hot).cellOther _ hot).cellOther _ hot, l1, l2⟩
end Go.Proofs.Ytjcacemijnlmhaa
