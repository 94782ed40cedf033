import Derived.Test.YtjcacemijnlmhaaR
set_option linter.unusedVariables false
namespace Go.Proofs.Ytjcacemijnlmhaa
open Go.RowKit
theorem keepE {w W : World} {p : Addr} {v : Value} (hp : p.block < w.heap.size) (hc : w.cell? p = some v) (h : Ext w W) : W.cell? p = some v ∧ Ext w W := ⟨h.cel hp hc, h⟩
theorem app_guard {P : Program} {Ops : Array Oper} {o : Oper} {a : Act} {w : World} {K : Act → World → Prop} {Q : Exit → Act → World → Prop} {El : Prop} {t : TypeId} (s x : Operand)
    (_ : o.op = .call { callee := .builtin .append, args := #[s, x], argTypes := #[t, t] }) (h : if Region.wanted o (yielded Ops a.tmps) = true then Oper.wp P o a w K Q else El) : if Region.wanted o (yielded Ops a.tmps) = true then Oper.wp P o a w K Q else El := h
set_option maxHeartbeats 2000000 in
theorem rtake_E (A : Option Addr) (n c : Nat) (bs : List Int) (w : World) (hr : Rd w A n bs) (hn : n ≤ 20) (hnc : n ≤ c) (hpos : 0 < n) (x : Int) (HX : Hid (x = bs.getD 0 0)) (x0 : 0 ≤ x) (x1 : x < 256) (hn2 : 2 ≤ n) (hx : x = 253) : Calls Try.prog 15 #[.slice A n c] w fun e w' => ∃ err kind code B A' m c', e = .returned (.tuple #[.agg #[.int .u8 kind, .int .u8 code, .slice A' m c'], .int .i64 err]) ∧ TK bs err kind code B ∧ Ext w w' ∧ Rd w' A' m B ∧ m ≤ c' ∧ c' ≤ maxLen := by
  have hl := hr.len
  obtain ⟨bb, off, rfl, hbb, hc0⟩ := hr.cell hpos
  obtain ⟨bb', off', hE, hbb', hc1⟩ := hr.cell (k := 1) (by omega)
  cases hE
  simp only [Nat.add_zero] at hc0
  have hn0 : (0 : Int) < n := by omega
  have hn1' : (1 : Int) < n := by omega
  have hne : ((n : Int) == 0) = false := by simp; omega
  have hn1 : ((n : Int) == 1) = false := by simp; omega
  have htk : Hid (TK bs 0 3 (bs.getD 1 0) ((bs.drop 2).take 6)) := .inr (.inr (.inr (.inr (.inl ⟨by omega, by rw [← HX.out, hx], rfl, rfl, rfl, rfl⟩))))
  rw [← HX.out, hx] at hc0
  have e0 : n = 2 → bs.drop 2 = [] := fun h => List.drop_eq_nil_of_le (by omega)
  have E0 := Lib.hid e0
  clear HX hl e0
  have hd := fun h => hr.drop' (k := 2) h (by omega)
  generalize bs.getD 1 0 = y at *
  by_cases h2 : n = 2
  · rw [E0.out h2] at htk
    subst h2
    have hnc' : (2 : Int) ≤ c := by omega
    by_cases hcap : c = 2
    · subst hcap
      obtain ⟨W1, hW1⟩ : ∃ W1, W1 = w.alloc (.cells #[.int .u8 0, .int .u8 0, .slice none 0 0] 24) := ⟨_, rfl⟩
      have xW : Ext w W1 := by rw [hW1]; exact (Ext.refl _).alloc _
      have hrow : W1.heap[w.heap.size]? = some (.cells #[.int .u8 0, .int .u8 0, .slice none 0 0] 24 (0, 0)) := by rw [hW1]; exact heap_alloc_new _ _
      have HW := Lib.hid hW1; clear hW1
      have hcW : W1.cell? ⟨bb, off + 1, none⟩ = some (.int .u8 y) := xW.cel hbb' hc1
      have HD := fun W (x : Ext w W) => (Rd.nil (A := some ⟨bb, off, none⟩) (w := W))
      go_enter Try.func15, Try.ntmps15
      go_wp2
      rw [← HW.out]
      go_region_held3 (fun W => W.cell? ⟨bb, off + 1, none⟩ = some (.int .u8 y) ∧ Ext w W) ((refine keepE hbb' hc1 ?_; repeat' (first | assumption | with_reducible exact Ext.refl _ | with_reducible refine Ext.drew ?_ | with_reducible refine Ext.alloc ?_ _ | with_reducible refine Ext.setCell ?_ (by simp) _))) (first | (refine app_guard (.tmp 41) (.tmp 46) rfl ?_; refine step_app (base := W1.heap.size) (v := .slice (some ⟨W1.heap.size, 0, none⟩) 0 0) (n := 0) (xs := (#[] : Array Value).toList) (A := some ⟨bb, off, none⟩) (m := 0) (c := 0) (news := u8s []) (w0 := W1) el22 rfl (.tmp 41) (.tmp 46) rfl (own_lit (w := W1.drew) #[] 0 rfl (Nat.le_refl _) (by simp) rfl) (by simp [Act.eval]) (HD _ (xW.trans ((Ext.refl _).drew.alloc _))).shows (by simp [Act.eval]) (u8s_one _) (le_max (by omega)) (by omega) rfl ((Ext.refl _).alloc _).drew ?_; intro v1 w1 hown1 x1 hg1 hat1; obtain ⟨A', c', rfl, l1, l2, r1, f1⟩ := own_rdF (v := v1) (own0 hown1) (HD _ (Ext.refl _)).byts; clear hg1 hat1 hown1; have xw1 := xW.trans x1; have hz1 := (x1.block _ (blk_lt hrow)).trans hrow; obtain ⟨j0, j1, j2⟩ := cells3 hz1; have jf := fun i => blk_free (i := i) hz1))
      all_goals (go_wp2; have hfin : (((w1.setCell ⟨w.heap.size, 0, none⟩ (.int .u8 3)).setCell ⟨w.heap.size, 1, none⟩ (.int .u8 y)).setCell ⟨w.heap.size, 2, none⟩ (.slice A' 0 c')).heap[w.heap.size]? = some (.cells #[.int .u8 3, .int .u8 y, .slice A' 0 c'] 24 (0, 0)) := blk_set (blk_set (blk_set hz1)); have hlt := blk_lt hrow; have hot : ∀ ad, A' = some ad → ad.block ≠ w.heap.size := fun ad e => Nat.ne_of_gt (Nat.lt_of_lt_of_le hlt (f1 ad e)); refine bodyPost_ret (results_row2 rfl rfl hfin Try.underlying24 rfl (by kernel_rfl)) rfl ⟨0, 3, y, _, A', _, c', rfl, htk.out, ((((xW.trans (x1)).setCell (by simp) _).setCell (by simp) _).setCell (by simp) _), ((r1.cellOther _ hot).cellOther _ hot).cellOther _ hot, l1, l2⟩)
    · obtain ⟨W1, hW1⟩ : ∃ W1, W1 = w.alloc (.cells #[.int .u8 0, .int .u8 0, .slice none 0 0] 24) := ⟨_, rfl⟩
      have xW : Ext w W1 := by rw [hW1]; exact (Ext.refl _).alloc _
      have hrow : W1.heap[w.heap.size]? = some (.cells #[.int .u8 0, .int .u8 0, .slice none 0 0] 24 (0, 0)) := by rw [hW1]; exact heap_alloc_new _ _
      have HW := Lib.hid hW1; clear hW1
      have hcW : W1.cell? ⟨bb, off + 1, none⟩ = some (.int .u8 y) := xW.cel hbb' hc1
      have HD := fun W (x : Ext w W) => (Rd.nil (A := some ⟨bb, off + 2, none⟩) (w := W))
      go_enter Try.func15, Try.ntmps15
      go_wp2
      rw [← HW.out]
      go_region_held3 (fun W => W.cell? ⟨bb, off + 1, none⟩ = some (.int .u8 y) ∧ Ext w W) ((refine keepE hbb' hc1 ?_; repeat' (first | assumption | with_reducible exact Ext.refl _ | with_reducible refine Ext.drew ?_ | with_reducible refine Ext.alloc ?_ _ | with_reducible refine Ext.setCell ?_ (by simp) _))) (first | (refine app_guard (.tmp 41) (.tmp 46) rfl ?_; refine step_app (base := W1.heap.size) (v := .slice (some ⟨W1.heap.size, 0, none⟩) 0 0) (n := 0) (xs := (#[] : Array Value).toList) (A := some ⟨bb, off + 2, none⟩) (m := 0) (c := (c - 2)) (news := u8s []) (w0 := W1) el22 rfl (.tmp 41) (.tmp 46) rfl (own_lit (w := W1.drew) #[] 0 rfl (Nat.le_refl _) (by simp) rfl) (by simp [Act.eval]) (HD _ (xW.trans ((Ext.refl _).drew.alloc _))).shows (by simp [Act.eval]) (u8s_one _) (le_max (by omega)) (by omega) rfl ((Ext.refl _).alloc _).drew ?_; intro v1 w1 hown1 x1 hg1 hat1; obtain ⟨A', c', rfl, l1, l2, r1, f1⟩ := own_rdF (v := v1) (own0 hown1) (HD _ (Ext.refl _)).byts; clear hg1 hat1 hown1; have xw1 := xW.trans x1; have hz1 := (x1.block _ (blk_lt hrow)).trans hrow; obtain ⟨j0, j1, j2⟩ := cells3 hz1; have jf := fun i => blk_free (i := i) hz1))
      all_goals (go_wp2; have hfin : (((w1.setCell ⟨w.heap.size, 0, none⟩ (.int .u8 3)).setCell ⟨w.heap.size, 1, none⟩ (.int .u8 y)).setCell ⟨w.heap.size, 2, none⟩ (.slice A' 0 c')).heap[w.heap.size]? = some (.cells #[.int .u8 3, .int .u8 y, .slice A' 0 c'] 24 (0, 0)) := blk_set (blk_set (blk_set hz1)); have hlt := blk_lt hrow; have hot : ∀ ad, A' = some ad → ad.block ≠ w.heap.size := fun ad e => Nat.ne_of_gt (Nat.lt_of_lt_of_le hlt (f1 ad e)); refine bodyPost_ret (results_row2 rfl rfl hfin Try.underlying24 rfl (by kernel_rfl)) rfl ⟨0, 3, y, _, A', _, c', rfl, htk.out, ((((xW.trans (x1)).setCell (by simp) _).setCell (by simp) _).setCell (by simp) _), ((r1.cellOther _ hot).cellOther _ hot).cellOther _ hot, l1, l2⟩)
  · have hc2 : ¬ c = 2 := by omega
    have hn2' : (2 : Int) ≤ n := by omega
    have hnc' : (n : Int) ≤ c := by omega
    have hd' := hd (by omega)
    have H2 := Lib.hid h2; clear h2
    by_cases h8 : ¬ (8 : Int) < n
    · have e7 : (bs.drop 2).take 6 = bs.drop 2 := List.take_of_length_le (by rw [hd'.len]; omega)
      rw [e7] at htk
      have hit : (if (8 : Int) < n then (8 : Int) else n) = n := if_neg h8
      clear e7
      obtain ⟨W1, hW1⟩ : ∃ W1, W1 = w.alloc (.cells #[.int .u8 0, .int .u8 0, .slice none 0 0] 24) := ⟨_, rfl⟩
      have xW : Ext w W1 := by rw [hW1]; exact (Ext.refl _).alloc _
      have hrow : W1.heap[w.heap.size]? = some (.cells #[.int .u8 0, .int .u8 0, .slice none 0 0] 24 (0, 0)) := by rw [hW1]; exact heap_alloc_new _ _
      have HW := Lib.hid hW1; clear hW1
      have hcW : W1.cell? ⟨bb, off + 1, none⟩ = some (.int .u8 y) := xW.cel hbb' hc1
      have HD := fun W (x : Ext w W) => (hd'.ext x)
      go_enter Try.func15, Try.ntmps15
      go_wp2
      rw [← HW.out]
      go_region_held3 (fun W => W.cell? ⟨bb, off + 1, none⟩ = some (.int .u8 y) ∧ Ext w W) ((refine keepE hbb' hc1 ?_; repeat' (first | assumption | with_reducible exact Ext.refl _ | with_reducible refine Ext.drew ?_ | with_reducible refine Ext.alloc ?_ _ | with_reducible refine Ext.setCell ?_ (by simp) _))) (first | (refine app_guard (.tmp 41) (.tmp 46) rfl ?_; refine step_app (base := W1.heap.size) (v := .slice (some ⟨W1.heap.size, 0, none⟩) 0 0) (n := 0) (xs := (#[] : Array Value).toList) (A := some ⟨bb, off + 2, none⟩) (m := (n - 2)) (c := (c - 2)) (news := u8s (bs.drop 2)) (w0 := W1) el22 rfl (.tmp 41) (.tmp 46) rfl (own_lit (w := W1.drew) #[] 0 rfl (Nat.le_refl _) (by simp) rfl) (by simp [Act.eval]) (HD _ (xW.trans ((Ext.refl _).drew.alloc _))).shows (by simp [Act.eval]) (u8s_one _) (le_max (by omega)) (by omega) rfl ((Ext.refl _).alloc _).drew ?_; intro v1 w1 hown1 x1 hg1 hat1; obtain ⟨A', c', rfl, l1, l2, r1, f1⟩ := own_rdF (v := v1) (own0 hown1) (HD _ (Ext.refl _)).byts; clear hg1 hat1 hown1; have xw1 := xW.trans x1; have hz1 := (x1.block _ (blk_lt hrow)).trans hrow; obtain ⟨j0, j1, j2⟩ := cells3 hz1; have jf := fun i => blk_free (i := i) hz1))
      all_goals (go_wp2; have hfin : (((w1.setCell ⟨w.heap.size, 0, none⟩ (.int .u8 3)).setCell ⟨w.heap.size, 1, none⟩ (.int .u8 y)).setCell ⟨w.heap.size, 2, none⟩ (.slice A' (n - 2) c')).heap[w.heap.size]? = some (.cells #[.int .u8 3, .int .u8 y, .slice A' (n - 2) c'] 24 (0, 0)) := blk_set (blk_set (blk_set hz1)); have hlt := blk_lt hrow; have hot : ∀ ad, A' = some ad → ad.block ≠ w.heap.size := fun ad e => Nat.ne_of_gt (Nat.lt_of_lt_of_le hlt (f1 ad e)); refine bodyPost_ret (results_row2 rfl rfl hfin Try.underlying24 rfl (by kernel_rfl)) rfl ⟨0, 3, y, _, A', _, c', rfl, htk.out, ((((xW.trans (x1)).setCell (by simp) _).setCell (by simp) _).setCell (by simp) _), ((r1.cellOther _ hot).cellOther _ hot).cellOther _ hot, l1, l2⟩)
    · have h8c : (8 : Int) ≤ c := by omega
      have hit : (if (8 : Int) < n then (8 : Int) else n) = 8 := if_pos (by omega)
      have hd7 := hd'.take (k := 6) (by omega)
      obtain ⟨W1, hW1⟩ : ∃ W1, W1 = w.alloc (.cells #[.int .u8 0, .int .u8 0, .slice none 0 0] 24) := ⟨_, rfl⟩
      have xW : Ext w W1 := by rw [hW1]; exact (Ext.refl _).alloc _
      have hrow : W1.heap[w.heap.size]? = some (.cells #[.int .u8 0, .int .u8 0, .slice none 0 0] 24 (0, 0)) := by rw [hW1]; exact heap_alloc_new _ _
      have HW := Lib.hid hW1; clear hW1
      have hcW : W1.cell? ⟨bb, off + 1, none⟩ = some (.int .u8 y) := xW.cel hbb' hc1
      have HD := fun W (x : Ext w W) => (hd7.ext x)
      go_enter Try.func15, Try.ntmps15
      go_wp2
      rw [← HW.out]
      go_region_held3 (fun W => W.cell? ⟨bb, off + 1, none⟩ = some (.int .u8 y) ∧ Ext w W) ((refine keepE hbb' hc1 ?_; repeat' (first | assumption | with_reducible exact Ext.refl _ | with_reducible refine Ext.drew ?_ | with_reducible refine Ext.alloc ?_ _ | with_reducible refine Ext.setCell ?_ (by simp) _))) (first | (refine app_guard (.tmp 41) (.tmp 46) rfl ?_; refine step_app (base := W1.heap.size) (v := .slice (some ⟨W1.heap.size, 0, none⟩) 0 0) (n := 0) (xs := (#[] : Array Value).toList) (A := some ⟨bb, off + 2, none⟩) (m := 6) (c := (c - 2)) (news := u8s ((bs.drop 2).take 6)) (w0 := W1) el22 rfl (.tmp 41) (.tmp 46) rfl (own_lit (w := W1.drew) #[] 0 rfl (Nat.le_refl _) (by simp) rfl) (by simp [Act.eval]) (HD _ (xW.trans ((Ext.refl _).drew.alloc _))).shows (by simp [Act.eval]) (u8s_one _) (le_max (by omega)) (by omega) rfl ((Ext.refl _).alloc _).drew ?_; intro v1 w1 hown1 x1 hg1 hat1; obtain ⟨A', c', rfl, l1, l2, r1, f1⟩ := own_rdF (v := v1) (own0 hown1) (HD _ (Ext.refl _)).byts; clear hg1 hat1 hown1; have xw1 := xW.trans x1; have hz1 := (x1.block _ (blk_lt hrow)).trans hrow; obtain ⟨j0, j1, j2⟩ := cells3 hz1; have jf := fun i => blk_free (i := i) hz1))
      all_goals (go_wp2; have hfin : (((w1.setCell ⟨w.heap.size, 0, none⟩ (.int .u8 3)).setCell ⟨w.heap.size, 1, none⟩ (.int .u8 y)).setCell ⟨w.heap.size, 2, none⟩ (.slice A' 6 c')).heap[w.heap.size]? = some (.cells #[.int .u8 3, .int .u8 y, .slice A' 6 c'] 24 (0, 0)) := blk_set (blk_set (blk_set hz1)); have hlt := blk_lt hrow; have hot : ∀ ad, A' = some ad → ad.block ≠ w.heap.size := fun ad e => Nat.ne_of_gt (Nat.lt_of_lt_of_le hlt (f1 ad e)); refine bodyPost_ret (results_row2 rfl rfl hfin Try.underlying24 rfl (by kernel_rfl)) rfl ⟨0, 3, y, _, A', _, c', rfl, htk.out, ((((xW.trans (x1)).setCell (by simp) _).setCell (by simp) _).setCell (by simp) _), ((r1.cellOther _ hot).cellOther _ hot).cellOther _ hot, l1, l2⟩)
end Go.Proofs.Ytjcacemijnlmhaa
